import Derived.Test.YtffgpepngcnjeabGreatSag
namespace Go.Proofs.YtffgpepngcnjeabGreat
set_option maxRecDepth 100000
set_option maxHeartbeats 4000000
section
open Go.RowKit
variable {w w' a c w0:World} {b n k o B HB:Nat} {E F N:NPr} {l:List Int} {xs:List InD} {ys:LII} {bs:List Nat} {x y z:Value} {bl:List TxD}
theorem handedIntsF_any (ao:OAd) (n c:Nat) (l:List Int) (w:World) (hr:IntsAt w ao l) (hn:l.length=n) (hm:n<=17592186044416) (h0:ao=none->c=0):
 Calls Tryz.prog 200 #[.slice ao n c] w fun e w'=>∃ B,e=.returned (.slice (some ⟨B,0,none⟩) n (n+1))/\Row w' B 0 (l++[-5])/\Free w' B 0 (n+1)/\w.heap.size<=B/\Below w.heap.size w w':=by
 have hmk:=make_ints n hm
 obtain⟨w1,hrun,hrow,hfree,hb1⟩:=copy_made ao n c l w hr hn h0
 have hc1:=hrow n (by simp[hn])
 have hf1:=hfree n (by omega)
 rw[Nat.zero_add] at hc1 hf1
 generalize (l++[0]).getD n 0=y at hc1
 have HN:=hiD hn
 have HR:Hid _:=hrow
 have HF:=hiD hfree
 clear hrow hfree hn hr h0
 go_enter Tryz.func200,Tryz.ntmps200
 go_wp2
 go_ret
 exact⟨_,rfl,row_last HN HR,HF.out.set _ _,leR,hb1.setCell leR _⟩
theorem handedOutsF_any (ao:OAd) (n c:Nat) (ys:LII) (w:World) (hr:OutsAt w ao ys) (hn:ys.length=n) (hm:n<=8796093022208) (h0:ao=none->c=0):
 Calls Tryz.prog 111 #[.slice ao n c] w fun e w'=>∃ B,e=.returned (.slice (some ⟨B,0,none⟩) n (n+1))/\OutsRow w' B 0 (ys++[(-5,-5)])/\Free w' B 0 (n*2+2)/\w.heap.size<=B/\Below w.heap.size w w':=by
 have hmk:=make_outs n hm
 have hl:(outL ys).length=n*2:=by rw[outL_len,hn];omega
 obtain⟨w1,hrun,hrow,hfree,hb1⟩:=copy_outs ao n c (outL ys) w (ints_of_outs hr) hl h0
 have hc1:=hrow (n*2) (by simp[hl])
 have hf1:=hfree (n*2) (by omega)
 have hc2:=hrow (n*2+1) (by simp[hl])
 have hf2:=hfree (n*2+1) (by omega)
 rw[Nat.zero_add] at hc1 hf1 hc2 hf2
 generalize (outL ys++[0,0]).getD (n*2) 0=y1 at hc1
 generalize (outL ys++[0,0]).getD (n*2+1) 0=y2 at hc2
 have HN:=hiD hn
 have HR:=hiD hrow
 have HF:Hid (Free w1 w.heap.size 0 (n*2+2)):=fun j hj=>hfree j (by omega)
 clear hrow hfree hn hr h0 hl
 go_enter Tryz.func111,Tryz.ntmps111
 go_wp2
 go_ret
 refine⟨_,rfl,?_,(HF.out.set _ _).set _ _,leR,?_⟩
 ·exact outs_last HN HR
 ·exact(hb1.setCell leR _).setCell leR _
theorem Room.grown (h:Room w b n) (hn:0<n) (hb:Below w.heap.size w w'):Room w' b n:=by
 obtain⟨v,hv⟩:=h.here 0 hn
 exact h.below hb (cell_lt hv)
theorem Room.fr (hf:Fr E w w') (h:Room w b n) (he:¬E b):Room w' b n:=by
 refine⟨fun j hj=>?_,fun j hj=>?_⟩
 ·obtain⟨v,hv⟩:=h.here j hj
  exact⟨v,hf.cell hv he⟩
 ·obtain⟨v,hv⟩:=h.here j hj
  exact(hf.frozen (cell_lt hv) he).trans (h.free j hj)
theorem room_row (hr:Row w b 0 l) (hl:n<=l.length) (hf:Free w b 0 n):Room w b n:=by
 refine⟨fun j hj=>?_,fun j hj=>?_⟩
 ·have:=hr j (by omega)
  rw[Nat.zero_add] at this
  exact⟨_,this⟩
 ·have:=hf j hj
  rw[Nat.zero_add] at this
  exact this
theorem room_outs {l:LII} (hr:OutsRow w b 0 l) (hl:n<=l.length*2) (hf:Free w b 0 n):Room w b n:=by
 have h:=row_of_outs hr
 exact room_row h (by rw[outL_len];omega) hf
structure Wrote (E:NPr) (w w':World):Prop where
 fr:Fr E w w'
 room:∀ b n,Room w b n->Room w' b n
theorem Wrote.refl (E:NPr) (w:World):Wrote E w w:=⟨Fr.refl _ _,fun _ _ h=>h⟩
theorem Wrote.trans {b:World} (h:Wrote E a b) (k:Wrote E b c):Wrote E a c:=⟨h.fr.trans k.fr,fun b n hr=>k.room b n (h.room b n hr)⟩
theorem Wrote.weak (h:Wrote E w w') (hs:∀ k,k<w.heap.size->E k->F k):Wrote F w w':=⟨h.fr.weak hs,h.room⟩
theorem Wrote.set (h:Wrote E w w') (g o:Nat) (v:Value) (hE:E g):Wrote E w (w'.setCell ⟨g,o,none⟩ v):=⟨h.fr.set g o v (fun _=>hE),fun b n hr=>(h.room b n hr).set _ _⟩
theorem Wrote.alloc (h:Wrote E w w') (o:Obj):Wrote E w (w'.alloc o):=by
 refine⟨h.fr.alloc o,fun b n hr=>?_⟩
 by_cases hn:0<n
 ·exact(h.room b n hr).grown hn (bAl _ _)
 ·exact⟨fun j hj=>by omega,fun j hj=>by omega⟩
theorem blotInts_any (B n:Nat) (w:World) (hr:Room w B (n+1)) (hm:n<=17592186044416):
 Calls Tryz.prog 202 #[.slice (some ⟨B,0,none⟩) n (n+1)] w fun e w'=>e=.returned (.tuple #[])/\Wrote (fun k=>k=B) w w':=by
 have HR:=hiD hr
 clear hr
 have e0:(n:Int)+1<=(n:Int)+1:=by omega
 go_enter Tryz.func202,Tryz.ntmps202
 go_wp2
 go_loopw [3] (fun i wr=>∃ k:Nat,k<=n+1/\i=.int .i64 k/\Wrote (fun k=>k=B) w wr) (fun i _=>n+1-(intOf i).toNat)
 case atStart=>exact⟨0,Nat.zero_le _,rfl,Wrote.refl _ _⟩
 case round=>
  obtain⟨k,hk,rfl,hw⟩:=hrel
  have hro:=hw.room B _ HR.out
  by_cases hlt:k<n+1
  ·obtain⟨v,c0⟩:=hro.here k hlt
   have f0:=hro.free k hlt
   have e1:(0:Int)<=(k:Int):=by omega
   have e2:(k:Int)<(n:Int)+1:=by omega
   go_wp2
   go_roundw
   case rel=>exact⟨k+1,by omega,by go_num,hw.set B k _ rfl⟩
   case measure=>simp[intOf];omega
  ·have e2:¬(k:Int)<(n:Int)+1:=by omega
   go_wp2
   go_end0
   exact⟨rfl,hw⟩
theorem blotOuts_any (B n:Nat) (w:World) (hr:Room w B ((n+1)*2)) (hm:n<=8796093022208):
 Calls Tryz.prog 113 #[.slice (some ⟨B,0,none⟩) n (n+1)] w fun e w'=>e=.returned (.tuple #[])/\Wrote (fun k=>k=B) w w':=by
 have HR:=hiD hr
 clear hr
 have e0:(n:Int)+1<=(n:Int)+1:=by omega
 go_enter Tryz.func113,Tryz.ntmps113
 go_wp2
 go_loopw [3] (fun i wr=>∃ k:Nat,k<=n+1/\i=.int .i64 k/\Wrote (fun k=>k=B) w wr) (fun i _=>n+1-(intOf i).toNat)
 case atStart=>exact⟨0,Nat.zero_le _,rfl,Wrote.refl _ _⟩
 case round=>
  obtain⟨k,hk,rfl,hw⟩:=hrel
  have hro:=hw.room B _ HR.out
  by_cases hlt:k<n+1
  ·obtain⟨v,c0⟩:=hro.here (k*2) (by omega)
   have f0:=hro.free (k*2) (by omega)
   obtain⟨v1,c1⟩:=hro.here (k*2+1) (by omega)
   have f1:=hro.free (k*2+1) (by omega)
   have e1:(0:Int)<=(k:Int):=by omega
   have e2:(k:Int)<(n:Int)+1:=by omega
   go_wp2
   go_roundw
   case rel=>exact⟨k+1,by omega,by go_num,(hw.set B (k*2) _ rfl).set B (k*2+1) _ rfl⟩
   case measure=>simp[intOf];omega
  ·have e2:¬(k:Int)<(n:Int)+1:=by omega
   go_wp2
   go_end0
   exact⟨rfl,hw⟩
structure HD where
 BI:Nat
 BO:Nat
 bs:List Nat
 lo:Nat
 hi:Nat
def dHD:HD:=⟨0,0,[],0,0⟩
structure HTxF (w:World) (d:HD) (xs:List InD) (ys:LII):Prop where
 ins:HIns w d.BI xs xs.length d.bs
 last:w.cell? ⟨d.BI,xs.length*3,none⟩=some (.int .i64 (-5))/\w.cell? ⟨d.BI,xs.length*3+1,none⟩=some (.int .i64 (-5))/\w.cell? ⟨d.BI,xs.length*3+2,none⟩=some (.slice none 0 0)
 outs:OutsRow w d.BO 0 (ys++[(-5,-5)])
 fin:∀ j,j<xs.length->Free w (d.bs.getD j 0) 0 ((xs.getD j dIn).n+1)
 room:Room w d.BI ((xs.length+1)*3)
 fout:Free w d.BO 0 (ys.length*2+2)
 rng:(d.lo<=d.BI/\d.BI<d.hi)/\(d.lo<=d.BO/\d.BO<d.hi)/\∀ j,j<xs.length->d.lo<=d.bs.getD j 0/\d.bs.getD j 0<d.hi
theorem HTxF.tx {d:HD} (h:HTxF w d xs ys):HTx w d.BI d.BO xs ys:=⟨⟨d.bs,h.ins⟩,h.last,h.outs⟩
theorem HTxF.fr (hf:Fr E w w') {d:HD} (h:HTxF w d xs ys) (he:∀ k,d.lo<=k->k<d.hi->¬E k):HTxF w' d xs ys:=by
 obtain⟨⟨r1,r2⟩,⟨r3,r4⟩,r5⟩:=h.rng
 have eI:=he _ r1 r2
 have eO:=he _ r3 r4
 refine⟨⟨h.ins.len,fun j hj=>?_⟩,⟨hf.cell h.last.1 eI,hf.cell h.last.2.1 eI,hf.cell h.last.2.2 eI⟩,fun j hj=>⟨hf.cell (h.outs j hj).1 eO,hf.cell (h.outs j hj).2 eO⟩,fun j hj=>?_,h.room.fr hf eI,fun j hj=>?_,h.rng⟩
 ·obtain⟨⟨a0,a1,a2⟩,b,c⟩:=h.ins.done j hj
  exact⟨⟨hf.cell a0 eI,hf.cell a1 eI,hf.cell a2 eI⟩,hf.row b (he _ (r5 j hj).1 (r5 j hj).2),c⟩
 ·intro q hq
  obtain⟨_,b,_⟩:=h.ins.done j hj
  exact(hf.frozen (b.lt (by simp)) (he _ (r5 j hj).1 (r5 j hj).2)).trans (h.fin j hj q hq)
 ·have hl:=cell_lt (h.outs 0 (by simp)).1
  exact(hf.frozen hl eO).trans (h.fout j hj)
def SFree (w:World) (xs:List InD) (k:Nat) (bs:List Nat):Prop:=∀ j,j<k->Free w (bs.getD j 0) 0 ((xs.getD j dIn).n+1)/\bs.getD j 0<w.heap.size
theorem SFree.below (h:SFree w xs k bs) (hb:Below w.heap.size w w'):SFree w' xs k bs:=fun j hj=>
 ⟨(h j hj).1.below hb (h j hj).2,ltL (h j hj).2 hb.size⟩
theorem SFree.put3 (h:SFree w xs k bs):SFree (put3 w b o x y z) xs k bs:=fun j hj=>by
 refine⟨?_,by have:=(h j hj).2;simpa [Go.Proofs.YtffgpepngcnjeabGreat.put3] using this⟩
 exact(((h j hj).1.set _ _).set _ _).set _ _
theorem SFree.step (h:SFree w xs k bs) (hl:bs.length=k) (hb:Below w.heap.size w w') (hf:Free w' B 0 ((xs.getD k dIn).n+1)) (hB:B<w'.heap.size):SFree w' xs (k+1) (bs++[B]):=by
 intro j hj
 by_cases e:j<k
 ·rw[show(bs++[B]).getD j 0=bs.getD j 0 by simp only[List.getD];rw[List.getElem?_append_left (by omega)]]
  exact(h.below hb) j e
 ·have e:j=k:=by omega
  subst e
  rw[show(bs++[B]).getD j 0=B by rw[<-hl];simp[List.getD]]
  exact⟨hf,hB⟩
theorem put3_fr (h:Fr E w w') (b o:Nat) (x y z:Value) (hE:b<w.heap.size->E b):Fr E w (put3 w' b o x y z):=((h.set b o x hE).set b (o+1) y hE).set b (o+2) z hE
theorem handedTxF_any (t:Int) (ai:OAd) (n c:Nat) (ap:OAd) (m d:Nat) (xs:List InD) (ys:LII) (w:World) (hx:InsAt w ai xs) (hn:xs.length=n) (hy:OutsAt w ap ys) (hm:ys.length=m) (n1:n<=3518437208883) (m1:m<=8796093022208) (h0:ap=none->d=0):
 Calls Tryz.prog 157 #[.agg #[.int .i64 t,.slice ai n c,.slice ap m d]] w fun e w'=>∃ d:HD,e=.returned (.agg #[.int .i64 t,.slice (some ⟨d.BI,0,none⟩) n (n+1),.slice (some ⟨d.BO,0,none⟩) m (m+1)])/\HTxF w' d xs ys/\w.heap.size<=d.lo/\d.lo<=d.hi/\d.hi<=w'.heap.size/\Below w.heap.size w w':=by
 have hmk:=make_ins n n1
 have HN:Hid (xs.length=n):=hn
 have HM:Hid (ys.length=m):=hm
 have HX:Hid (InsAt w ai xs):=hx
 have HY:Hid (OutsAt w ap ys):=hy
 have H0:Hid _:=h0
 clear hn hm hx hy h0
 go_enter Tryz.func157,Tryz.ntmps157
 go_wp2
 clear hmk
 have hst:=htx_start w t ai ap n c m d
 obtain⟨W2,HW2,hsz2,hbel2,bx,rs⟩:=hst
 rw[<-HW2.out]
 have HBL2:Hid _:=hbel2
 have HBX:Hid _:=bx
 have HRS:Hid _:=rs
 clear hbel2 bx rs
 generalize hX:w.heap.size=X at *
 have HXX:Hid _:=hX
 clear hX
 have HSZ2:Hid (W2.heap.size=X+1+1):=hsz2
 clear hsz2
 go_loopw [5] (fun i wr=>∃ (k:Nat) (bs:List Nat),k<=n/\i=.int .i64 k/\HIns wr (X+1+1) xs k bs/\Hid (SFree wr xs k bs)/\Room wr (X+1+1) ((n+1)*3)/\Below (X+1+1) W2 wr/\X+1+1<wr.heap.size) (fun i _=>n-(intOf i).toNat)
 case atStart=>
  refine⟨0,[],Nat.zero_le _,rfl,⟨rfl,fun j hj=>by omega⟩,(fun j hj=>absurd hj (Nat.not_lt_zero _)),?_,?_,?_⟩
  ·have:=room_new W2 n
   rw[HSZ2.out] at this
   exact this
  ·exact(Below.refl _ _).alloc (by rw[HSZ2.out];exact leR) _
  ·rw[World.size_alloc,HSZ2.out];omega
 case round=>
  obtain⟨k,bs,hk,rfl,hins,hsf,hroom,hbl,hBI⟩:=hrel
  have hbk:=hins.len
  obtain⟨x0,x1,x2⟩:=HBX.out wr hbl
  have hw:Below X w wr:=HBL2.out.trans (hbl.mono (by omega))
  have hww:Below w.heap.size w wr:=by rw[HXX.out];exact hw
  by_cases hlt:k<n
  ·rcases HX.out with hnil|⟨b,off,rfl,hrow⟩
   ·have:=HN.out;rw[hnil] at this;simp at this;omega
   obtain⟨⟨c0,c1,c2⟩,hok⟩:=(hrow.grown hww) k (by rw[HN.out];exact hlt)
   have hbX:b<X:=by have:=cell_lt ((hrow k (by rw[HN.out];exact hlt)).1.c0);rw[HXX.out] at this;exact this
   clear hrow
   have HINS:Hid (HIns wr (X+1+1) xs k bs):=hins
   have HROOM:Hid (Room wr (X+1+1) ((n+1)*3)):=hroom
   clear hins hroom
   generalize hy:xs.getD k dIn=y at c0 c1 c2 hok
   have HYY:Hid (xs.getD k dIn=y):=hy
   clear hy
   obtain⟨yid,ypos,yao,yn,yc,yl⟩:=y
   obtain⟨k1,k2,k3,k4⟩:=hok
   simp only at c0 c1 c2 k1 k2 k3 k4
   have K2:Hid _:=k2
   have K4:Hid _:=k4
   clear k2 k4
   go_wp2_with (go_at_call 200;refine(handedIntsF_any _ _ _ yl _ k1 K2.out k3 K4.out).mono ?_;rintro e w2 ⟨B,rfl,hrB,hfB,hBlt,hb2⟩;have hwlt:∀ {b o:Nat} {v:Value},wr.cell? ⟨b,o,none⟩=some v->w2.cell? ⟨b,o,none⟩=some v:=(fun h=>cell_move hb2 h (cell_lt h));have z1:=hwlt x1;have z2:=hwlt c0;have z3:=hwlt c1;have HWLT:Hid _:=@hwlt;clear hwlt x0 x1 x2 c0 c1 c2)
   have hins2:=HINS.out.below hb2
   have hroom2:=HROOM.out.below hb2 hBI
   have hbl2:Below (X+1+1) W2 w2:=hbl.trans (hb2.mono (by omega))
   have hsz2:=hb2.size
   obtain⟨v0,q0⟩:=hroom2.here (k*3) (by omega)
   obtain⟨v1,q1⟩:=hroom2.here (k*3+1) (by omega)
   obtain⟨v2,q2⟩:=hroom2.here (k*3+2) (by omega)
   have f0:=hroom2.free (k*3) (by omega)
   have f1:=hroom2.free (k*3+1) (by omega)
   have f2:=hroom2.free (k*3+2) (by omega)
   have hstep:HIns (put3 w2 (X+1+1) (k*3) (.int .i64 yid) (.int .i64 ypos) (.slice (some ⟨B,0,none⟩) yn (yn+1))) (X+1+1) xs (k+1) (bs++[B]):=by
    have h:=HIns.step hins2 hroom2 hlt (b:=B) (by omega) (by rw[HYY.out];exact hrB)
    rw[HYY.out] at h
    exact h
   have HSTEP:Hid _:=hstep
   have HSF2:Hid (SFree (put3 w2 (X+1+1) (k*3) (.int .i64 yid) (.int .i64 ypos) (.slice (some ⟨B,0,none⟩) yn (yn+1))) xs (k+1) (bs++[B])):=(hsf.out.step hbk hb2 (by rw[HYY.out];exact hfB) (hrB.lt (by simp))).put3
   clear hsf hfB hbk
   have HROOM2:Hid _:=put3_room (b:=X+1+1) (o:=k*3) (x:=.int .i64 yid) (y:=.int .i64 ypos) (z:=.slice (some ⟨B,0,none⟩) yn (yn+1)) hroom2
   clear hstep hins2 hroom2
   have e1:(k:Int)<(n:Int)+1:=by omega
   have e2:(0:Int)<=(k:Int):=by omega
   have e3:(k:Int)<(n:Int):=by omega
   have nb1:X+1+1≠X:=by omega
   have nb2:X+1+1≠b:=by omega
   go_region_held3 (fun w'=>w'.cell? ⟨X,1,none⟩=some (.slice (some ⟨b,off,none⟩) n c)/\w'.cell? ⟨b,off+k*3,none⟩=some (.int .i64 yid)/\w'.cell? ⟨b,off+k*3+1,none⟩=some (.int .i64 ypos)) (go_keep) (fail)
   all_goals
    go_wp2
    go_roundw
    case rel=>exact⟨k+1,bs++[B],by omega,by go_num,HSTEP.out.drew,HSF2.out,HROOM2.out.drew,(put3_below hbl2 leR).drew,by simp;omega⟩
    case measure=>simp[intOf];omega
  ·have hkn:k=n:=by omega
   subst hkn
   obtain⟨v0,q0⟩:=hroom.here (k*3) (by omega)
   obtain⟨v1,q1⟩:=hroom.here (k*3+1) (by omega)
   obtain⟨v2,q2⟩:=hroom.here (k*3+2) (by omega)
   have f0:=hroom.free (k*3) (by omega)
   have f1:=hroom.free (k*3+1) (by omega)
   have f2:=hroom.free (k*3+2) (by omega)
   have HEND:Hid _:=hins.end (x:=.int .i64 (-5)) (y:=.int .i64 (-5)) (z:=.slice none 0 0) (n:=k) rfl
   have HSFE:Hid (SFree (put3 wr (X+1+1) (k*3) (.int .i64 (-5)) (.int .i64 (-5)) (.slice none 0 0)) xs k bs):=hsf.out.put3
   have HRME:Hid (Room (put3 wr (X+1+1) (k*3) (.int .i64 (-5)) (.int .i64 (-5)) (.slice none 0 0)) (X+1+1) ((k+1)*3)):=put3_room hroom
   have HLAST:Hid _:=put3_cells (x:=.int .i64 (-5)) (y:=.int .i64 (-5)) (z:=.slice none 0 0) ⟨v0,q0⟩ ⟨v1,q1⟩ ⟨v2,q2⟩
   have hbl2:Below (X+1+1) W2 (put3 wr (X+1+1) (k*3) (.int .i64 (-5)) (.int .i64 (-5)) (.slice none 0 0)):=put3_below hbl leR
   have hw2:Below w.heap.size w (put3 wr (X+1+1) (k*3) (.int .i64 (-5)) (.int .i64 (-5)) (.slice none 0 0)):=by rw[HXX.out];exact HBL2.out.trans (hbl2.mono (by omega))
   have HBL3:Hid _:=hbl2
   have HW3:Hid _:=hw2
   clear hins hroom hbl2 hw2
   go_wp2_with fail
   refine(handedOutsF_any _ _ _ ys _ (HY.out.grown HW3.out) HM.out m1 H0.out).mono ?_
   rintro e w3 ⟨BO,rfl,hout,hfo,hBO,hb3⟩
   have hszp:(put3 wr (X+1+1) (k*3) (.int .i64 (-5)) (.int .i64 (-5)) (.slice none 0 0)).heap.size=wr.heap.size:=by simp[put3]
   have hbl3:Below (X+1+1) W2 w3:=HBL3.out.trans (hb3.mono (by have:=hszp;unfold put3 at this;omega))
   have hwf:Below X w w3:=HBL2.out.trans (hbl3.mono (by omega))
   obtain⟨z0,z1,z2⟩:=HBX.out w3 hbl3
   obtain⟨⟨r0,r1,r2⟩,s0,s1,s2⟩:=HRS.out w3 hbl3
   have hsz3:=hb3.size
   have e1:(k:Int)<=(k:Int)+1:=by omega
   have e2:(0:Int)<=(k:Int):=by omega
   have nb1:X+1≠X:=by omega
   have hiend:=HEND.out.below (w':=w3) hb3
   have hlst:=HLAST.out
   obtain⟨l0,l1,l2⟩:=hlst
   have hBOl:BO<w3.heap.size:=by
    have:=(hout 0 (by simp)).1
    exact cell_lt this
   have hX3:X+1+1<=w3.heap.size:=by omega
   have HF:Hid (HTxF w3 ⟨X+1+1,BO,bs,X+1+1,w3.heap.size⟩ xs ys):=by
    refine⟨?_,?_,hout,?_,?_,?_,⟨⟨leR,by simp only;omega⟩,⟨by simp only;omega,hBOl⟩,fun j hj=>?_⟩⟩
    ·rw[HN.out];exact hiend
    ·rw[HN.out];exact⟨cell_move hb3 l0 (cell_lt l0),cell_move hb3 l1 (cell_lt l1),cell_move hb3 l2 (cell_lt l2)⟩
    ·intro j hj
     rw[HN.out] at hj
     exact((HSFE.out.below hb3) j hj).1
    ·rw[HN.out]
     exact HRME.out.grown (by omega) hb3
    ·rw[HM.out];exact hfo
    ·rw[HN.out] at hj
     have h1:=((HSFE.out.below hb3) j hj).2
     have h2:=(hiend.done j hj).2.2
     simp only
     omega
   have hBO2:X+1+1<BO:=by omega
   have HBO2:Hid _:=hBO2
   clear hiend l0 l1 l2 q0 q1 q2 f0 f1 f2 x0 x1 x2 hszp hout hb3 hBO2 hBO
   go_wp2
   go_region_held3 (fun w'=>w'.cell? ⟨X,0,none⟩=some (.int .i64 t)) (go_keep) (fail)
   all_goals
    go_wp2
    refine bodyPost_ret (v:=.agg #[.int .i64 t,.slice (some ⟨X+1+1,0,none⟩) k (k+1),.slice (some ⟨BO,0,none⟩) m (m+1)]) ?_ rfl ⟨⟨X+1+1,BO,bs,X+1+1,w3.heap.size⟩,rfl,?_,?_,?_,?_,?_⟩
    ·simp[results,Tryz.results157,go_sem,r0,r1,r2]
    ·exact HF.out.fr ((put3_fr (Fr.refl (fun k=>k=X+1) w3) (X+1) 0 _ _ _ (fun _=>rfl)).drew) (fun k h1 _ e=>by simp only at h1;omega)
    ·rw[HXX.out];simp only;omega
    ·simp only;omega
    ·simp
    ·rw[HXX.out];exact(put3_below (b:=X+1) (o:=0) hwf (Nat.le_succ X)).drew
theorem blotTx_any (d:HD) (t:Int) (n m:Nat) (xs:List InD) (ys:LII) (w:World) (h:HTxF w d xs ys) (hn:xs.length=n) (hm:ys.length=m) (hhi:d.hi<=w.heap.size) (hl:∀ j,j<n->(xs.getD j dIn).l.length=(xs.getD j dIn).n/\(xs.getD j dIn).n<=17592186044416) (n1:n<=3518437208883) (m1:m<=8796093022208):
 Calls Tryz.prog 159 #[.agg #[.int .i64 t,.slice (some ⟨d.BI,0,none⟩) n (n+1),.slice (some ⟨d.BO,0,none⟩) m (m+1)]] w fun e w'=>e=.returned (.tuple #[])/\Wrote (fun k=>d.lo<=k/\k<d.hi) w w':=by
 have HN:=hiD hn
 have HM:=hiD hm
 have HLL:=hiD hl
 obtain⟨BI,BO,bs,lo,hi⟩:=d
 simp only at hhi
 have hb1:Below w.heap.size w (w.alloc (.cells #[.int .i64 t,.slice (some ⟨BI,0,none⟩) n (n+1),.slice (some ⟨BO,0,none⟩) m (m+1)] 35)):=(Below.refl _ _).alloc leR _
 have hW0:Wrote (fun k=>lo<=k/\k<hi) w (w.alloc (.cells #[.int .i64 t,.slice (some ⟨BI,0,none⟩) n (n+1),.slice (some ⟨BO,0,none⟩) m (m+1)] 35)):=(Wrote.refl _ w).alloc _
 have HH:Hid (HTxF (w.alloc (.cells #[.int .i64 t,.slice (some ⟨BI,0,none⟩) n (n+1),.slice (some ⟨BO,0,none⟩) m (m+1)] 35)) ⟨BI,BO,bs,lo,hi⟩ xs ys):=h.fr (Fr.of_below hb1 (fun _=>False)) (fun _ _ _ h=>h)
 have x1:(w.alloc (.cells #[.int .i64 t,.slice (some ⟨BI,0,none⟩) n (n+1),.slice (some ⟨BO,0,none⟩) m (m+1)] 35)).cell? ⟨w.heap.size,1,none⟩=some (.slice (some ⟨BI,0,none⟩) n (n+1)):=by rw[World.cell?_alloc_new];rfl
 have x2:(w.alloc (.cells #[.int .i64 t,.slice (some ⟨BI,0,none⟩) n (n+1),.slice (some ⟨BO,0,none⟩) m (m+1)] 35)).cell? ⟨w.heap.size,2,none⟩=some (.slice (some ⟨BO,0,none⟩) m (m+1)):=by rw[World.cell?_alloc_new];rfl
 have HW0:Hid _:=hW0
 clear hn hm hl h hb1 hW0
 go_enter Tryz.func159,Tryz.ntmps159
 go_wp2
 generalize w.alloc (.cells #[.int .i64 t,.slice (some ⟨BI,0,none⟩) n (n+1),.slice (some ⟨BO,0,none⟩) m (m+1)] 35)=w1 at *
 generalize hXe:w.heap.size=X at *
 clear hXe
 obtain⟨⟨rI1,rI2⟩,⟨rO1,rO2⟩,rS⟩:=HH.out.rng
 simp only at rI1 rI2 rO1 rO2 rS
 have X1:=hiD x1
 have X2:=hiD x2
 have HRS:Hid (∀ j,j<n->lo<=bs.getD j 0/\bs.getD j 0<hi):=by show ∀ j,j<n->_;rw[<-HN.out];exact rS
 clear x1 x2 rS
 go_loopw [2] (fun i wr=>∃ k:Nat,k<=n/\i=.int .i64 k/\Wrote (fun q=>∃ j,j<n/\q=bs.getD j 0) w1 wr) (fun i _=>n-(intOf i).toNat)
 case atStart=>exact⟨0,Nat.zero_le _,rfl,Wrote.refl _ _⟩
 case round=>
  obtain⟨k,hk,rfl,hw⟩:=hrel
  have x1:=hw.fr.cell X1.out (fun⟨j,hj,e⟩=>by have:=(HRS.out j hj).2;omega)
  by_cases hlt:k<n
  ·obtain⟨⟨_,_,s2⟩,sr,sb⟩:=HH.out.ins.done k (by rw[HN.out];exact hlt)
   have sf:=HH.out.fin k (by rw[HN.out];exact hlt)
   obtain⟨l1,l2⟩:=HLL.out k hlt
   simp only at s2 sr sb sf
   have hBI:∀ j,j<n->BI<bs.getD j 0:=fun j hj=>(HH.out.ins.done j (by rw[HN.out];exact hj)).2.2
   have s2':=hw.fr.cell s2 (fun⟨j,hj,e⟩=>by have:=hBI j hj;omega)
   have hro:=hw.room _ _ (room_row sr (by rw[List.length_append,l1];simp) sf)
   simp only[hIn] at s2'
   generalize (xs.getD k dIn).n=zn at *
   have HRO:=hiD hro
   have HEQ:Hid (∀ q,q=bs.getD k 0->∃ j,j<n/\q=bs.getD j 0):=fun q e=>⟨k,hlt,e⟩
   clear hro sf s2 sr sb l1 hBI
   generalize bs.getD k 0=zb at s2' HRO HEQ
   have e1:(0:Int)<=(k:Int):=by omega
   have e2:(k:Int)<(n:Int):=by omega
   go_wp2_with (go_at_call 202;refine(blotInts_any zb zn _ HRO (by omega)).mono ?_;rintro e w2 ⟨rfl,hw2⟩)
   go_roundw
   case rel=>exact⟨k+1,by omega,by go_num,hw.trans (hw2.weak (fun q _ e=>HEQ q e))⟩
   case measure=>simp[intOf];omega
  ·have hkn:k=n:=by omega
   subst hkn
   have HW:Hid (Wrote (fun q=>lo<=q/\q<hi) w1 wr):=hw.weak (fun q _ e=>by obtain⟨j,hj,rfl⟩:=e;exact HRS j hj)
   have HX2:Hid (wr.cell? ⟨X,2,none⟩=some (.slice (some ⟨BO,0,none⟩) m (m+1))):=HW.out.fr.cell X2.out (fun e=>by omega)
   clear hw
   have e0:(k:Int)+1<=(k:Int)+1:=by omega
   go_wp2
   go_loopw [4] (fun i wr=>∃ j:Nat,j<=k+1/\i=.int .i64 j/\Wrote (fun q=>lo<=q/\q<hi) w1 wr) (fun i _=>k+1-(intOf i).toNat)
   case atStart=>exact⟨0,Nat.zero_le _,rfl,HW⟩
   case round=>
    obtain⟨j,hj,rfl,hw⟩:=hrel
    by_cases hjt:j<k+1
    ·have hro:=hw.room _ _ HH.out.room
     rw[HN.out] at hro
     simp only at hro
     obtain⟨v0,c0⟩:=hro.here (j*3) (by omega)
     obtain⟨v1,c1⟩:=hro.here (j*3+1) (by omega)
     obtain⟨v2,c2⟩:=hro.here (j*3+2) (by omega)
     have f0:=hro.free (j*3) (by omega)
     have f1:=hro.free (j*3+1) (by omega)
     have f2:=hro.free (j*3+2) (by omega)
     have e1:(0:Int)<=(j:Int):=by omega
     have e2:(j:Int)<(k:Int)+1:=by omega
     clear hro
     go_wp2
     go_roundw
     case rel=>exact⟨j+1,by omega,by go_num,((hw.set BI (j*3) _ ⟨rI1,rI2⟩).set BI (j*3+1) _ ⟨rI1,rI2⟩).set BI (j*3+2) _ ⟨rI1,rI2⟩⟩
     case measure=>simp[intOf];omega
    ·have e2:¬(j:Int)<(k:Int)+1:=by omega
     have x2:=hw.fr.cell X2.out (fun e=>by omega)
     have HRO:Hid (Room wr BO ((m+1)*2)):=by
      have hfo:=HH.out.fout
      rw[HM.out] at hfo
      exact hw.room _ _ (room_outs HH.out.outs (by rw[List.length_append,HM.out];simp) (fun q hq=>hfo q (by omega)))
     go_wp2_with (go_at_call 113;refine(blotOuts_any BO m _ HRO m1).mono ?_;rintro e w2 ⟨rfl,hw2⟩)
     go_end0
     exact⟨rfl,HW0.out.trans (hw.trans (hw2.weak (fun q _ e=>by subst e;exact⟨rO1,rO2⟩)))⟩
def hTx (x:TxD) (d:HD):TxD:=⟨x.t,some ⟨d.BI,0,none⟩,x.n,x.n+1,some ⟨d.BO,0,none⟩,x.m,x.m+1,(List.range x.ins.length).map (fun j=>hIn (x.ins.getD j dIn) (d.bs.getD j 0)),x.ys⟩
structure HBlk (w:World) (HB:Nat) (bl:List TxD) (k:Nat) (hs:List HD):Prop where
 len:hs.length=k
 row:∀ j,j<k->TxCells w HB (j*3) (hTx (bl.getD j dT) (hs.getD j dHD))
 tx:∀ j,j<k->HTxF w (hs.getD j dHD) (bl.getD j dT).ins (bl.getD j dT).ys
 lo:∀ j,j<k->HB<(hs.getD j dHD).lo/\(hs.getD j dHD).lo<=(hs.getD j dHD).hi/\(hs.getD j dHD).hi<=w.heap.size
 ord:∀ i j,i<j->j<k->(hs.getD i dHD).hi<=(hs.getD j dHD).lo
theorem HBlk.fr (hf:Fr E w w') {hs:List HD} (h:HBlk w HB bl k hs) (he:∀ q,HB<=q->q<w.heap.size->¬E q):HBlk w' HB bl k hs:=by
 refine⟨h.len,fun j hj=>?_,fun j hj=>?_,fun j hj=>⟨(h.lo j hj).1,(h.lo j hj).2.1,leT (h.lo j hj).2.2 hf.size⟩,h.ord⟩
 ·obtain⟨c0,c1,c2⟩:=h.row j hj
  have hB:=he HB leR (cell_lt c0)
  exact⟨hf.cell c0 hB,hf.cell c1 hB,hf.cell c2 hB⟩
 ·obtain⟨l1,l2,l3⟩:=h.lo j hj
  exact(h.tx j hj).fr hf (fun q h1 h2=>he q (by omega) (by omega))
theorem HBlk.grown (hb:Below w.heap.size w w') {hs:List HD} (h:HBlk w HB bl k hs):HBlk w' HB bl k hs:=h.fr (Fr.of_below hb (fun _=>False)) (fun _ _ _ h=>h)
theorem HBlk.step {hs:List HD} (h:HBlk w HB bl k hs) (hroom:Room w HB ((n+1)*3)) (hk:k<n) {d:HD} (hd:HTxF w d (bl.getD k dT).ins (bl.getD k dT).ys) (hlo:HB<d.lo/\d.lo<=d.hi/\d.hi<=w.heap.size) (hord:∀ i,i<k->(hs.getD i dHD).hi<=d.lo):
 HBlk (put3 w HB (k*3) (.int .i64 (bl.getD k dT).t) (.slice (some ⟨d.BI,0,none⟩) (bl.getD k dT).n ((bl.getD k dT).n+1)) (.slice (some ⟨d.BO,0,none⟩) (bl.getD k dT).m ((bl.getD k dT).m+1))) HB bl (k+1) (hs++[d]):=by
 have el:∀ j,j<k->(hs++[d]).getD j dHD=hs.getD j dHD:=fun j hj=>by simp only[List.getD];rw[List.getElem?_append_left (by rw[h.len];exact hj)]
 have ee:(hs++[d]).getD k dHD=d:=by rw[<-h.len];simp[List.getD]
 have hfr:Fr (fun q=>q=HB) w (put3 w HB (k*3) (.int .i64 (bl.getD k dT).t) (.slice (some ⟨d.BI,0,none⟩) (bl.getD k dT).n ((bl.getD k dT).n+1)) (.slice (some ⟨d.BO,0,none⟩) (bl.getD k dT).m ((bl.getD k dT).m+1))):=put3_fr (Fr.refl _ w) HB _ _ _ _ (fun _=>rfl)
 refine⟨by simp[h.len],fun j hj=>?_,fun j hj=>?_,fun j hj=>?_,fun i j hij hj=>?_⟩
 ·by_cases e:j<k
  ·rw[el j e]
   obtain⟨c0,c1,c2⟩:=h.row j e
   exact⟨(put3_other (Or.inr (by simp only;omega))).trans c0,(put3_other (Or.inr (by simp only;omega))).trans c1,(put3_other (Or.inr (by simp only;omega))).trans c2⟩
  ·have e:j=k:=by omega
   subst e
   rw[ee]
   obtain⟨q0,q1,q2⟩:=put3_cells (x:=.int .i64 (bl.getD j dT).t) (y:=.slice (some ⟨d.BI,0,none⟩) (bl.getD j dT).n ((bl.getD j dT).n+1)) (z:=.slice (some ⟨d.BO,0,none⟩) (bl.getD j dT).m ((bl.getD j dT).m+1)) (hroom.here (j*3) (by omega)) (hroom.here (j*3+1) (by omega)) (hroom.here (j*3+2) (by omega))
   exact⟨q0,q1,q2⟩
 ·by_cases e:j<k
  ·rw[el j e]
   exact(h.tx j e).fr hfr (fun q h1 _ h3=>by have:=(h.lo j e).1;omega)
  ·have e:j=k:=by omega
   subst e
   rw[ee]
   exact hd.fr hfr (fun q h1 _ h3=>by omega)
 ·have hs:(put3 w HB (k*3) (.int .i64 (bl.getD k dT).t) (.slice (some ⟨d.BI,0,none⟩) (bl.getD k dT).n ((bl.getD k dT).n+1)) (.slice (some ⟨d.BO,0,none⟩) (bl.getD k dT).m ((bl.getD k dT).m+1))).heap.size=w.heap.size:=by simp[put3]
  rw[hs]
  by_cases e:j<k
  ·rw[el j e];exact h.lo j e
  ·have e:j=k:=by omega
   subst e
   rw[ee];exact hlo
 ·by_cases e:j<k
  ·rw[el j e,el i (by omega)];exact h.ord i j hij e
  ·have e:j=k:=by omega
   subst e
   rw[ee,el i hij];exact hord i hij
theorem HBlk.end {hs:List HD} (h:HBlk w HB bl k hs):HBlk (put3 w HB (k*3) x y z) HB bl k hs:=by
 have hfr:Fr (fun q=>q=HB) w (put3 w HB (k*3) x y z):=put3_fr (Fr.refl _ w) HB _ _ _ _ (fun _=>rfl)
 refine⟨h.len,fun j hj=>?_,fun j hj=>(h.tx j hj).fr hfr (fun q h1 _ h3=>by have:=(h.lo j hj).1;omega),fun j hj=>⟨(h.lo j hj).1,(h.lo j hj).2.1,leT (h.lo j hj).2.2 hfr.size⟩,h.ord⟩
 obtain⟨c0,c1,c2⟩:=h.row j hj
 exact⟨(put3_other (Or.inr (by simp only;omega))).trans c0,(put3_other (Or.inr (by simp only;omega))).trans c1,(put3_other (Or.inr (by simp only;omega))).trans c2⟩
theorem info35:(Tryz.prog.info? 35).map (fun i=>(i.zero,i.size,i.bytes))=some (some (.agg #[.int .i64 0,.slice none 0 0,.slice none 0 0]),3,56):=by kernel_rfl
theorem make_txs (n:Nat) (hn:n<=2513169434915):∀ u:World,(Instr.makeSlice 60 (.int .i64 ((n:Int)+1)) (.int .i64 ((n:Int)+1))).run Tryz.prog u =
 .ok (.slice (some ⟨u.heap.size,0,none⟩) (n+1) (n+1)) (u.alloc (.cells (madeCells #[.int .i64 0,.slice none 0 0,.slice none 0 0] ((n+1)*3)) 35)):=fun u=>by
 obtain⟨i0,hi,hz0,hz1,hz2⟩:=info_parts info35
 have h:=run_make (P:=Tryz.prog) u 60 35 i0 (.agg #[.int .i64 0,.slice none 0 0,.slice none 0 0]) Tryz.underlying60 hi hz0 .i64 .i64 ((n:Int)+1) ((n:Int)+1) (by omega) (Int.le_refl _) (by rw[hz2];omega) (by omega)
 have e:((n:Int)+1).toNat=n+1:=by omega
 rw[e] at h
 simpa [hz1,Value.cells] using h
theorem room_txs (W:World) (n:Nat):Room (W.alloc (.cells (madeCells #[.int .i64 0,.slice none 0 0,.slice none 0 0] ((n+1)*3)) 35)) W.heap.size ((n+1)*3):=by
 refine⟨fun j hj=>?_,fun j _=>World.frozen?_alloc_at _ _ _ _ rfl⟩
 have hs:j<(madeCells #[Value.int .i64 0,.slice none 0 0,.slice none 0 0] ((n+1)*3)).size:=by rw[size_madeCells];exact hj
 exact⟨_,by rw[World.cell?_alloc_new,Array.getElem?_eq_getElem hs]⟩
structure TxH (x:TxD):Prop where
 n1:x.n<=3518437208883
 m1:x.m<=8796093022208
 nl:x.ap=none->x.d=0
theorem handed_any (N:NPr) (ao:OAd) (n c:Nat) (bl:List TxD) (w:World) (hb:BlkAt N w ao bl) (hn:bl.length=n) (n1:n<=2513169434915) (hx:∀ x∈bl,TxH x):
 Calls Tryz.prog 107 #[.slice ao n c] w fun e w'=>e=.returned (.slice (some ⟨w.heap.size,0,none⟩) n (n+1))/\∃ hs,HBlk w' w.heap.size bl n hs/\Room w' w.heap.size ((n+1)*3)/\(w'.cell? ⟨w.heap.size,n*3,none⟩=some (.int .i64 (-5))/\w'.cell? ⟨w.heap.size,n*3+1,none⟩=some (.slice none 0 0)/\w'.cell? ⟨w.heap.size,n*3+2,none⟩=some (.slice none 0 0))/\Below w.heap.size w w':=by
 have hmk:=make_txs n n1
 have HN:Hid (bl.length=n):=hn
 have HB:Hid (BlkAt N w ao bl):=hb
 have HX:Hid (∀ x∈bl,TxH x):=hx
 clear hn hb hx
 go_enter Tryz.func107,Tryz.ntmps107
 go_wp2
 clear hmk
 have hroom0:=room_txs w n
 have hbl0:Below w.heap.size w (w.alloc (.cells (madeCells #[.int .i64 0,.slice none 0 0,.slice none 0 0] ((n+1)*3)) 35)):=(Below.refl _ _).alloc leR _
 have hs0:w.heap.size<(w.alloc (.cells (madeCells #[.int .i64 0,.slice none 0 0,.slice none 0 0] ((n+1)*3)) 35)).heap.size:=by simp
 have HR0:Hid _:=hroom0
 have HBL0:Hid _:=hbl0
 have HS0:Hid _:=hs0
 clear hroom0 hbl0 hs0
 generalize w.alloc (.cells (madeCells #[.int .i64 0,.slice none 0 0,.slice none 0 0] ((n+1)*3)) 35)=W1 at *
 generalize hXe:w.heap.size=X at *
 have HXX:Hid (w.heap.size=X):=hXe
 clear hXe
 go_loopw [5] (fun i wr=>∃ (k:Nat) (hs:List HD),k<=n/\i=.int .i64 k/\HBlk wr X bl k hs/\Room wr X ((n+1)*3)/\Below X w wr/\X<wr.heap.size) (fun i _=>n-(intOf i).toNat)
 case atStart=>exact⟨0,[],Nat.zero_le _,rfl,⟨rfl,fun j hj=>by omega,fun j hj=>by omega,fun j hj=>by omega,fun i j _ hj=>by omega⟩,HR0.out,HBL0.out,HS0.out⟩
 case round=>
  obtain⟨k,hs,hk,rfl,hh,hroom,hbl,hXl⟩:=hrel
  have hww:Below w.heap.size w wr:=by rw[HXX.out];exact hbl
  by_cases hlt:k<n
  ·have hblk:=HB.out.fr (Fr.of_below hww (fun _=>False)) (fun _ _ h=>h)
   rcases hblk.row with hnil|⟨g2,off2,rfl,hrow2⟩
   ·have h1:=HN.out;rw[hnil] at h1;simp at h1;omega
   obtain⟨t0,t1,t2⟩:=txCells hrow2 k (by rw[HN.out];exact hlt)
   have hok:=hblk.ok _ (getD_mem bl dT k (by rw[HN.out];exact hlt))
   have hxh:=HX.out _ (getD_mem bl dT k (by rw[HN.out];exact hlt))
   have HSTEP:Hid _:=fun (w2:World) (d:HD) (h:HBlk w2 X bl k hs) (hr:Room w2 X ((n+1)*3)) h1 h2 h3=>HBlk.step (d:=d) h hr hlt h1 h2 h3
   have HHI:Hid (∀ i,i<k->(hs.getD i dHD).hi<=wr.heap.size):=fun i hi=>(hh.lo i hi).2.2
   have HH:Hid (HBlk wr X bl k hs):=hh
   have HRM:Hid (Room wr X ((n+1)*3)):=hroom
   clear hrow2 hblk hh hroom
   generalize bl.getD k dT=y at t0 t1 t2 hok hxh HSTEP
   obtain⟨yt,yai,yn,yc,yap,ym,yd,yins,yys⟩:=y
   obtain⟨h1,h2,h3⟩:=hxh
   simp only at t0 t1 t2 h1 h2 h3 HSTEP
   have HOK:Hid (TxOk N wr ⟨yt,yai,yn,yc,yap,ym,yd,yins,yys⟩):=hok
   have H3:Hid (yap=none->yd=0):=h3
   clear hok h3
   have e1:(0:Int)<=(k:Int):=by omega
   have e2:(k:Int)<(n:Int):=by omega
   have e3:(k:Int)<(n:Int)+1:=by omega
   go_wp2_with fail
   refine(handedTxF_any yt yai yn yc yap ym yd yins yys _ HOK.out.ins HOK.out.il HOK.out.outs HOK.out.ol h1 h2 H3.out).mono ?_
   rintro e w2 ⟨d,rfl,hd,hd1,hd2,hd3,hb2⟩
   have hroom2:=HRM.out.below hb2 hXl
   obtain⟨v0,c0⟩:=hroom2.here (k*3) (by omega)
   obtain⟨v1,c1⟩:=hroom2.here (k*3+1) (by omega)
   obtain⟨v2,c2⟩:=hroom2.here (k*3+2) (by omega)
   have f0:=hroom2.free (k*3) (by omega)
   have f1:=hroom2.free (k*3+1) (by omega)
   have f2:=hroom2.free (k*3+2) (by omega)
   have HS2:Hid _:=HSTEP.out w2 d (HH.out.grown hb2) hroom2 hd ⟨by omega,hd2,hd3⟩ (fun i hi=>leT (HHI.out i hi) hd1)
   have HRM2:Hid (Room w2 X ((n+1)*3)):=hroom2
   have hbl2:=hbl.trans (hb2.mono (by omega))
   have hsz2:=hb2.size
   clear hroom2 HSTEP HH HRM HHI hd hd1 hd2 hd3 t0 t1 t2 HOK hb2 hww
   obtain⟨dI,dO,dbs,dlo,dhi⟩:=d
   simp only at HS2
   go_wp2
   go_roundw
   case rel=>exact⟨k+1,_,by omega,by go_num,HS2.out,put3_room HRM2.out,put3_below hbl2 leR,by simp;omega⟩
   case measure=>simp[intOf];omega
  ·have hkn:k=n:=by omega
   subst hkn
   obtain⟨v0,c0⟩:=hroom.here (k*3) (by omega)
   obtain⟨v1,c1⟩:=hroom.here (k*3+1) (by omega)
   obtain⟨v2,c2⟩:=hroom.here (k*3+2) (by omega)
   have f0:=hroom.free (k*3) (by omega)
   have f1:=hroom.free (k*3+1) (by omega)
   have f2:=hroom.free (k*3+2) (by omega)
   have HEND:Hid (HBlk (put3 wr X (k*3) (.int .i64 (-5)) (.slice none 0 0) (.slice none 0 0)) X bl k hs):=hh.end
   have HRM:Hid (Room (put3 wr X (k*3) (.int .i64 (-5)) (.slice none 0 0) (.slice none 0 0)) X ((k+1)*3)):=put3_room hroom
   have HLAST:Hid _:=put3_cells (x:=.int .i64 (-5)) (y:=.slice none 0 0) (z:=.slice none 0 0) ⟨v0,c0⟩ ⟨v1,c1⟩ ⟨v2,c2⟩
   have HBLW:Hid (Below X w (put3 wr X (k*3) (.int .i64 (-5)) (.slice none 0 0) (.slice none 0 0))):=put3_below hbl leR
   clear hh hroom hww hbl
   have e1:(0:Int)<=(k:Int):=by omega
   have e3:(k:Int)<(k:Int)+1:=by omega
   have e4:(k:Int)<=(k:Int)+1:=by omega
   go_wp2
   go_ret
   rw[HXX.out]
   exact⟨rfl,hs,HEND.out,HRM.out,HLAST.out,HBLW.out⟩
abbrev HLast (w:World) (HB n:Nat):Prop:=w.cell? ⟨HB,n*3,none⟩=some (.int .i64 (-5))/\w.cell? ⟨HB,n*3+1,none⟩=some (.slice none 0 0)/\w.cell? ⟨HB,n*3+2,none⟩=some (.slice none 0 0)
theorem TxOk.heap {x:TxD} (h:TxOk N w x) (hb:Below w.heap.size w w'):TxOk N w' x:=h.fr (Fr.of_below hb (fun _=>False)) (fun _ _ h=>h)
theorem still_any (N:NPr) (HB:Nat) (ao:OAd) (n c:Nat) (bl:List TxD) (hs:List HD) (w:World) (hb:BlkAt N w ao bl) (hn:bl.length=n) (n1:n<=2513169434915) (hx:∀ x∈bl,TxH x) (hh:HBlk w HB bl n hs) (hl:HLast w HB n):
 Calls Tryz.prog 108 #[.slice (some ⟨HB,0,none⟩) n (n+1),.slice ao n c] w fun e w'=>e=.returned (.bool true)/\Below w.heap.size w w':=by
 have HN:=hiD hn
 have HBK:=hiD hb
 have HX:=hiD hx
 have HH:=hiD hh
 have HL:=hiD hl
 clear hn hb hx hh hl
 go_enter Tryz.func108,Tryz.ntmps108
 go_wp2
 go_loopw [6] (fun i wr=>∃ k:Nat,k<=n/\i=.int .i64 k/\Below w.heap.size w wr) (fun i _=>n-(intOf i).toNat)
 case atStart=>exact⟨0,Nat.zero_le _,rfl,Below.refl _ _⟩
 case round=>
  obtain⟨k,hk,rfl,hbl⟩:=hrel
  by_cases hlt:k<n
  ·have hblk:=HBK.out.fr (Fr.of_below hbl (fun _=>False)) (fun _ _ h=>h)
   rcases hblk.row with hnil|⟨g2,off2,rfl,hrow2⟩
   ·have h1:=HN.out;rw[hnil] at h1;simp at h1;omega
   obtain⟨t0,t1,t2⟩:=txCells hrow2 k (by rw[HN.out];exact hlt)
   have hok:=hblk.ok _ (getD_mem bl dT k (by rw[HN.out];exact hlt))
   have hxh:=HX.out _ (getD_mem bl dT k (by rw[HN.out];exact hlt))
   have hh2:=HH.out.grown hbl
   obtain⟨r0,r1,r2⟩:=hh2.row k hlt
   have htx:=(hh2.tx k hlt).tx
   clear hrow2 hblk hh2
   generalize bl.getD k dT=y at t0 t1 t2 hok hxh r0 r1 r2 htx
   generalize hs.getD k dHD=d at r0 r1 r2 htx
   obtain⟨yt,yai,yn,yc,yap,ym,yd,yins,yys⟩:=y
   obtain⟨dI,dO,dbs,dlo,dhi⟩:=d
   obtain⟨h1,h2,_⟩:=hxh
   simp only[hTx] at t0 t1 t2 h1 h2 r0 r1 r2 htx
   have HOK:Hid (TxOk N wr.drew ⟨yt,yai,yn,yc,yap,ym,yd,yins,yys⟩):=hok.heap ((Below.refl _ _).drew)
   have HTXD:=hiD htx.drew
   clear hok htx
   have e1:(0:Int)<=(k:Int):=by omega
   have e2:(k:Int)<(n:Int):=by omega
   have hkb:∀ w9,Below wr.drew.heap.size wr.drew w9->w9.cell? ⟨HB,k*3,none⟩=some (.int .i64 yt)/\w9.cell? ⟨HB,k*3+1,none⟩=some (.slice (some ⟨dI,0,none⟩) yn (yn+1))/\w9.cell? ⟨HB,k*3+2,none⟩=some (.slice (some ⟨dO,0,none⟩) ym (ym+1))/\w9.cell? ⟨g2,off2+k*3,none⟩=some (.int .i64 yt)/\w9.cell? ⟨g2,off2+k*3+1,none⟩=some (.slice yai yn yc)/\w9.cell? ⟨g2,off2+k*3+2,none⟩=some (.slice yap ym yd):=fun w9 hb=>
    ⟨(hb.cell (p:=⟨HB,k*3,none⟩) (cell_lt r0)).trans r0,(hb.cell (p:=⟨HB,k*3+1,none⟩) (cell_lt r1)).trans r1,(hb.cell (p:=⟨HB,k*3+2,none⟩) (cell_lt r2)).trans r2,(hb.cell (p:=⟨g2,off2+k*3,none⟩) (cell_lt t0)).trans t0,(hb.cell (p:=⟨g2,off2+k*3+1,none⟩) (cell_lt t1)).trans t1,(hb.cell (p:=⟨g2,off2+k*3+2,none⟩) (cell_lt t2)).trans t2⟩
   have HKB:Hid _:=hkb
   clear hkb
   go_wp2
   go_region_held3 (fun w'=>w'.cell? ⟨HB,k*3,none⟩=some (.int .i64 yt)/\w'.cell? ⟨HB,k*3+1,none⟩=some (.slice (some ⟨dI,0,none⟩) yn (yn+1))/\w'.cell? ⟨HB,k*3+2,none⟩=some (.slice (some ⟨dO,0,none⟩) ym (ym+1))/\w'.cell? ⟨g2,off2+k*3,none⟩=some (.int .i64 yt)/\w'.cell? ⟨g2,off2+k*3+1,none⟩=some (.slice yai yn yc)/\w'.cell? ⟨g2,off2+k*3+2,none⟩=some (.slice yap ym yd)) (first|assumption|go_keep) ((go_at_call 158;refine(stillTx_any yt dI dO yai yn yc yap ym yd yins yys _ HTXD HOK.out.ins HOK.out.il HOK.out.outs HOK.out.ol h1 h2).mono ?_;rintro e w7 ⟨rfl,hb7⟩;have hk7:=HKB.out w7 hb7))
   go_wp2
   go_roundw
   case rel=>exact⟨k+1,by omega,by go_num,below_blk hbl (((Below.refl wr.heap.size wr).drew).trans hb7)⟩
   case measure=>simp[intOf];omega
  ·have hkn:k=n:=by omega
   subst hkn
   have l0:=(hbl.cell (p:=⟨HB,k*3,none⟩) (cell_lt HL.out.1)).trans HL.out.1
   have l1:=(hbl.cell (p:=⟨HB,k*3+1,none⟩) (cell_lt HL.out.2.1)).trans HL.out.2.1
   have l2:=(hbl.cell (p:=⟨HB,k*3+2,none⟩) (cell_lt HL.out.2.2)).trans HL.out.2.2
   have e1:(0:Int)<=(k:Int):=by omega
   have e3:(k:Int)<(k:Int)+1:=by omega
   have e4:(k:Int)+1<=(k:Int)+1:=by omega
   go_wp2
   go_ret
   exact⟨rfl,hbl⟩
theorem blotted_any (N:NPr) (HB:Nat) (n:Nat) (bl:List TxD) (hs:List HD) (w w0:World) (hok:∀ x∈bl,TxOk N w0 x) (hn:bl.length=n) (n1:n<=2513169434915) (hx:∀ x∈bl,TxH x) (hh:HBlk w HB bl n hs) (hr:Room w HB ((n+1)*3)):
 Calls Tryz.prog 109 #[.slice (some ⟨HB,0,none⟩) n (n+1)] w fun e w'=>e=.returned (.tuple #[])/\Wrote (fun q=>q=HB\/∃ j,j<n/\(hs.getD j dHD).lo<=q/\q<(hs.getD j dHD).hi) w w':=by
 have HN:=hiD hn
 have HOK:=hiD hok
 have HX:=hiD hx
 have HH:=hiD hh
 have HR:=hiD hr
 clear hn hok hx hh hr
 go_enter Tryz.func109,Tryz.ntmps109
 go_wp2
 go_loopw [2] (fun i wr=>∃ k:Nat,k<=n/\i=.int .i64 k/\Wrote (fun q=>∃ j,j<k/\(hs.getD j dHD).lo<=q/\q<(hs.getD j dHD).hi) w wr) (fun i _=>n-(intOf i).toNat)
 case atStart=>exact⟨0,Nat.zero_le _,rfl,Wrote.refl _ _⟩
 case round=>
  obtain⟨k,hk,rfl,hw⟩:=hrel
  by_cases hlt:k<n
  ·obtain⟨r0,r1,r2⟩:=HH.out.row k hlt
   have hne:¬∃ j,j<k/\(hs.getD j dHD).lo<=HB/\HB<(hs.getD j dHD).hi:=fun⟨j,hj,h1,_⟩=>by have:=(HH.out.lo j (by omega)).1;omega
   have s0:=hw.fr.cell r0 hne
   have s1:=hw.fr.cell r1 hne
   have s2:=hw.fr.cell r2 hne
   have htx:=(HH.out.tx k hlt).fr hw.fr (fun q h1 h2 ⟨j,hj,h3,h4⟩=>by have:=HH.out.ord j k hj hlt;omega)
   have hhi:=leT (HH.out.lo k hlt).2.2 hw.fr.size
   have hxh:=HX.out _ (getD_mem bl dT k (by rw[HN.out];exact hlt))
   have hokk:=HOK.out _ (getD_mem bl dT k (by rw[HN.out];exact hlt))
   have HEX:Hid (∀ q,(hs.getD k dHD).lo<=q/\q<(hs.getD k dHD).hi->∃ j,j<k+1/\(hs.getD j dHD).lo<=q/\q<(hs.getD j dHD).hi):=fun q h=>⟨k,by omega,h⟩
   clear r0 r1 r2 hne
   generalize bl.getD k dT=y at s0 s1 s2 htx hxh hokk
   generalize hs.getD k dHD=d at s0 s1 s2 htx hhi HEX
   obtain⟨yt,yai,yn,yc,yap,ym,yd,yins,yys⟩:=y
   obtain⟨h1,h2,_⟩:=hxh
   simp only[hTx] at s0 s1 s2 h1 h2 htx
   have HTXF:=hiD htx
   have HIL:=hiD hokk.il
   have HOL:=hiD hokk.ol
   have HLN:Hid (∀ j,j<yn->(yins.getD j dIn).l.length=(yins.getD j dIn).n/\(yins.getD j dIn).n<=17592186044416):=fun j hj=>by
    rcases hokk.ins with hnil|⟨gi,oi,_,hir⟩
    ·have:=HIL.out;simp only at hnil;rw[hnil] at this;simp at this;omega
    ·have:=(hir j (by simp only;rw[HIL.out];exact hj)).2
     exact⟨this.len,this.sz⟩
   have HHI:=hiD hhi
   clear htx hokk hhi
   have e1:(0:Int)<=(k:Int):=by omega
   have e2:(k:Int)<(n:Int):=by omega
   go_wp2_with (go_at_call 159;refine(blotTx_any d yt yn ym yins yys _ HTXF HIL HOL HHI HLN h1 h2).mono ?_;rintro e w2 ⟨rfl,hw2⟩)
   go_roundw
   case rel=>exact⟨k+1,by omega,by go_num,(hw.weak (fun q _ ⟨j,hj,h⟩=>⟨j,by omega,h⟩)).trans (hw2.weak (fun q _ h=>HEX q h))⟩
   case measure=>simp[intOf];omega
  ·have hkn:k=n:=by omega
   subst hkn
   have HW:Hid (Wrote (fun q=>q=HB\/∃ j,j<k/\(hs.getD j dHD).lo<=q/\q<(hs.getD j dHD).hi) w wr):=hw.weak (fun q _ h=>Or.inr h)
   clear hw
   have e0:(k:Int)+1<=(k:Int)+1:=by omega
   go_wp2
   go_loopw [4] (fun i wr=>∃ j:Nat,j<=k+1/\i=.int .i64 j/\Wrote (fun q=>q=HB\/∃ j,j<k/\(hs.getD j dHD).lo<=q/\q<(hs.getD j dHD).hi) w wr) (fun i _=>k+1-(intOf i).toNat)
   case atStart=>exact⟨0,Nat.zero_le _,rfl,HW⟩
   case round=>
    obtain⟨j,hj,rfl,hw⟩:=hrel
    by_cases hjt:j<k+1
    ·have hro:=hw.room _ _ HR.out
     obtain⟨v0,c0⟩:=hro.here (j*3) (by omega)
     obtain⟨v1,c1⟩:=hro.here (j*3+1) (by omega)
     obtain⟨v2,c2⟩:=hro.here (j*3+2) (by omega)
     have f0:=hro.free (j*3) (by omega)
     have f1:=hro.free (j*3+1) (by omega)
     have f2:=hro.free (j*3+2) (by omega)
     have e1:(0:Int)<=(j:Int):=by omega
     have e2:(j:Int)<(k:Int)+1:=by omega
     clear hro
     go_wp2
     go_roundw
     case rel=>exact⟨j+1,by omega,by go_num,((hw.set HB (j*3) _ (Or.inl rfl)).set HB (j*3+1) _ (Or.inl rfl)).set HB (j*3+2) _ (Or.inl rfl)⟩
     case measure=>simp[intOf];omega
    ·have e2:¬(j:Int)<(k:Int)+1:=by omega
     go_wp2
     go_end0
     exact⟨rfl,hw⟩
def hBl (bl:List TxD) (hs:List HD):List TxD:=(List.range bl.length).map fun j=>hTx (bl.getD j dT) (hs.getD j dHD)
theorem hBl_len (bl:List TxD) (hs:List HD):(hBl bl hs).length=bl.length:=by simp[hBl]
theorem hBl_get (bl:List TxD) (hs:List HD) (j:Nat) (h:j<bl.length):(hBl bl hs).getD j dT=hTx (bl.getD j dT) (hs.getD j dHD):=by
 simp[hBl,List.getD,h]
theorem vrow_of_cells {xs:List TxD} (h:∀ j,j<xs.length->TxCells w b (j*3) (xs.getD j dT)):VRow w b 0 (xs.flatMap TxD.v):=by
 intro j hj
 rw[rec_len TxD.v 3 tx3] at hj
 have hq:j / 3<xs.length:=by omega
 have e:=rec_get TxD.v 3 tx3 dT xs (j / 3) (j % 3) hq (by omega)
 rw[show j / 3*3+j % 3=j by omega] at e
 rw[e,Nat.zero_add]
 obtain⟨c0,c1,c2⟩:=h (j / 3) hq
 have h3:j % 3=0\/j % 3=1\/j % 3=2:=by omega
 rcases h3 with h3|h3|h3
 ·rw[h3,show j=j / 3*3 by omega,Nat.mul_div_cancel _ (by omega)];exact c0
 ·rw[h3,show j=j / 3*3+1 by omega,show(j / 3*3+1) / 3=j / 3 by omega];exact c1
 ·rw[h3,show j=j / 3*3+2 by omega,show(j / 3*3+2) / 3=j / 3 by omega];exact c2
theorem hBlk_at {hs:List HD} (hok:∀ x∈bl,TxOk N w0 x) (h:HBlk w HB bl bl.length hs):BlkAt (fun q=>HB<=q/\q<w.heap.size) w (some ⟨HB,0,none⟩) (hBl bl hs):=by
 have hrow:VRow w HB 0 ((hBl bl hs).flatMap TxD.v):=vrow_of_cells (fun j hj=>by rw[hBl_len] at hj;rw[hBl_get _ _ _ hj];exact h.row j hj)
 refine⟨Or.inr ⟨HB,0,rfl,hrow⟩,fun hne a ha=>?_,fun x hx=>?_⟩
 ·cases ha
  refine⟨leR,?_⟩
  refine hrow.lt (fun e=>hne ?_)
  have:=congrArg List.length e
  rw[rec_len TxD.v 3 tx3] at this
  exact List.length_eq_zero_iff.1 (by simp only[List.length_nil] at this;omega)
 ·obtain⟨j,hj,rfl⟩:=mem_getD dT hx
  rw[hBl_len] at hj
  rw[hBl_get _ _ _ hj]
  have hx0:=hok _ (getD_mem bl dT j hj)
  have ht:=h.tx j hj
  obtain⟨l1,l2,l3⟩:=h.lo j hj
  generalize bl.getD j dT=y at hx0 ht
  generalize hs.getD j dHD=d at ht l1 l2 l3
  obtain⟨⟨r1,r2⟩,⟨r3,r4⟩,r5⟩:=ht.rng
  have hlen:((List.range y.ins.length).map (fun j=>hIn (y.ins.getD j dIn) (d.bs.getD j 0))).length=y.ins.length:=by simp
  have hget:∀ i,i<y.ins.length->((List.range y.ins.length).map (fun j=>hIn (y.ins.getD j dIn) (d.bs.getD j 0))).getD i dIn=hIn (y.ins.getD i dIn) (d.bs.getD i 0):=fun i hi=>by simp[List.getD,hi]
  refine⟨Or.inr ⟨d.BI,0,rfl,fun i hi=>?_⟩,?_,Or.inr ⟨d.BO,0,rfl,ht.outs.head⟩,hx0.ol,fun _ a ha=>?_,fun _ a ha=>?_,fun i hi _ a ha=>?_⟩
  ·simp only[hTx] at hi ⊢
   rw[hlen] at hi
   rw[hget i hi,Nat.zero_add]
   obtain⟨q1,q2,q3⟩:=ht.ins.done i hi
   refine⟨q1,⟨Or.inr ⟨_,0,rfl,q2.head⟩,?_,?_,fun h=>by cases h⟩⟩
   ·rcases hx0.ins with hnil|⟨gi,oi,_,hir⟩
    ·rw[hnil] at hi;simp at hi
    ·exact(hir i hi).2.len
   ·rcases hx0.ins with hnil|⟨gi,oi,_,hir⟩
    ·rw[hnil] at hi;simp at hi
    ·exact(hir i hi).2.sz
  ·simp only[hTx];rw[hlen];exact hx0.il
  ·cases ha;simp only;omega
  ·cases ha;simp only;omega
  ·simp only[hTx,List.mem_map,List.mem_range] at hi
   obtain⟨q,hq,rfl⟩:=hi
   cases ha
   have:=r5 q hq
   simp only
   omega
end
end Go.Proofs.YtffgpepngcnjeabGreat
