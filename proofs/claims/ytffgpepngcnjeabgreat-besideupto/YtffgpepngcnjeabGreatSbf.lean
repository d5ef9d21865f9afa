import Derived.Test.YtffgpepngcnjeabGreatSbe
namespace Go.Proofs.YtffgpepngcnjeabGreat
set_option maxRecDepth 100000
set_option maxHeartbeats 8000000
section
open Go.RowKit
variable {w w2 w':World} {b off X D a b':Nat} {xs:List CoinD} {p q:Nat×Nat} {x y a0 a1 a2 a3 a4 a5 d z v1 v2:Value} {s:Int} {m:MadeD} {E:NPr}
theorem kcCellsA (h:VRow w b off (xs.flatMap kC)) (j:Nat) (hj:j<xs.length):w.cell? ⟨b,off+j*2,none⟩=some (.int .i64 (xs.getD j dN).br)/\w.cell? ⟨b,off+j*2+1,none⟩=some (.int .i64 (xs.getD j dN).ix):=
 ⟨rcell kC2 dN h j hj 0 (by omega),rcell kC2 dN h j hj 1 (by omega)⟩
theorem sameKeys_any (ao bo:OAd) (n c d:Nat) (cs:List CoinD) (w:World) (h1:RecAt kC w ao cs) (h2:RecAt kC w bo cs) (hn:cs.length=n) (hm:n<=1000000):
 Calls Tryz.prog 171 #[.slice ao n c,.slice bo n d] w fun e w'=>e=.returned (.bool true)/\Below w.heap.size w w':=by
 have H1:=hiD h1
 have H2:=hiD h2
 have HN:=hiD hn
 clear h1 h2 hn
 go_enter Tryz.func171,Tryz.ntmps171
 go_wp2
 go_loopw [5] (fun i wr=>∃ k:Nat,k<=n/\i=.int .i64 k/\Below w.heap.size w wr) (fun i _=>n-(intOf i).toNat)
 case atStart=>exact⟨0,Nat.zero_le _,rfl,Below.refl _ _⟩
 case round=>
  obtain⟨k,hk,rfl,hbl⟩:=hrel
  by_cases hlt:k<n
  ·rcases H1.out with hnil|⟨ga,oa,rfl,hra⟩
   ·have:=HN.out;rw[hnil] at this;simp at this;omega
   rcases H2.out with hnil|⟨gb,ob,rfl,hrb⟩
   ·have:=HN.out;rw[hnil] at this;simp at this;omega
   obtain⟨a0,a1⟩:=kcCellsA (hra.grown hbl) k (by rw[HN.out];exact hlt)
   obtain⟨b0,b1⟩:=kcCellsA (hrb.grown hbl) k (by rw[HN.out];exact hlt)
   clear hra hrb
   generalize cs.getD k dN=y at *
   obtain⟨y0,y1,y2,y3,y4,y5⟩:=y
   simp only at a0 a1 b0 b1
   have k1:(k:Int)<(n:Int):=by omega
   have k0:(0:Int)<=(k:Int):=by omega
   have g4:(y4 !=y4)=false:=by simp
   have g5:(y5 !=y5)=false:=by simp
   go_wp2
   go_quiet (fail)
   have hbr:Below w.heap.size w (wr.drewN nq):=⟨hbl.os,hbl.tape,hbl.output,hbl.size,hbl.block⟩
   go_wp2
   go_roundw
   case rel=>exact⟨k+1,by omega,by go_num,hbr⟩
   case measure=>simp[intOf];omega
  ·go_wp2
   go_ret
   exact⟨rfl,hbl⟩
theorem keepC2 (hb:Below w.drew.heap.size w.drew w2) (h1:w.cell? ⟨p.1,p.2,none⟩=some x) (h2:w.cell? ⟨q.1,q.2,none⟩=some y):w2.cell? ⟨p.1,p.2,none⟩=some x/\w2.cell? ⟨q.1,q.2,none⟩=some y:=
 ⟨(hb.cell (p:=⟨p.1,p.2,none⟩) (cell_lt h1)).trans h1,(hb.cell (p:=⟨q.1,q.2,none⟩) (cell_lt h2)).trans h2⟩
theorem sameIns_any (ao bo:OAd) (n c d:Nat) (xs ys:List InD) (w:World) (h1:InsAt w ao xs) (h2:InsAt w bo ys) (hn:xs.length=n) (hy:ys.length=n) (hs:xs.map InD.st=ys.map InD.st) (hm:n<=1000000):
 Calls Tryz.prog 177 #[.slice ao n c,.slice bo n d] w fun e w'=>e=.returned (.bool true)/\Below w.heap.size w w':=by
 have H1:=hiD h1
 have H2:=hiD h2
 have HN:=hiD hn
 have HM:=hiD hy
 have HS:Hid (∀ k,k<n->(xs.getD k dIn).st=(ys.getD k dIn).st):=fun k hk=>by
  have h3:(xs.map InD.st)[k]?=(ys.map InD.st)[k]?:=by rw[hs]
  rw[List.getElem?_map,List.getElem?_map,List.getElem?_eq_getElem (by omega),List.getElem?_eq_getElem (by omega)] at h3
  simp only[Option.map_some,Option.some.injEq] at h3
  simpa [List.getD,hn,hy,hk] using h3
 clear h1 h2 hn hy hs
 go_enter Tryz.func177,Tryz.ntmps177
 go_wp2
 go_loopw [5] (fun i wr=>∃ k:Nat,k<=n/\i=.int .i64 k/\Below w.heap.size w wr) (fun i _=>n-(intOf i).toNat)
 case atStart=>exact⟨0,Nat.zero_le _,rfl,Below.refl _ _⟩
 case round=>
  obtain⟨k,hk,rfl,hbl⟩:=hrel
  by_cases hlt:k<n
  ·rcases H1.out with hnil|⟨ga,oa,rfl,hra⟩
   ·have:=HN.out;rw[hnil] at this;simp at this;omega
   rcases H2.out with hnil|⟨gb,ob,rfl,hrb⟩
   ·have:=HM.out;rw[hnil] at this;simp at this;omega
   obtain⟨⟨a0,a1,a2⟩,ak⟩:=(hra.grown hbl) k (by rw[HN.out];exact hlt)
   obtain⟨⟨b0,b1,b2⟩,bk⟩:=(hrb.grown hbl) k (by rw[HM.out];exact hlt)
   have hst:=HS.out k hlt
   clear hra hrb
   generalize xs.getD k dIn=x at *
   generalize ys.getD k dIn=y at *
   obtain⟨xid,xpos,xao,xn,xc,xl⟩:=x
   obtain⟨yid,ypos,yao,yn,yc,yl⟩:=y
   simp only[InD.st,InD.mk.injEq,true_and] at hst
   obtain⟨rfl,rfl,rfl,rfl⟩:=hst
   obtain⟨k1,k2,k3,k4⟩:=ak
   obtain⟨l1,l2,l3,l4⟩:=bk
   simp only at a0 a1 a2 b0 b1 b2 k1 k2 k3 k4 l1
   have K1:=hiD k1
   have K2:=hiD k2
   have L1:=hiD l1
   have HKEEP:Hid (∀ w2:World,Below wr.drew.heap.size wr.drew w2->w2.cell? ⟨ga,oa+k*3+2,none⟩=some (.slice xao xn xc)/\w2.cell? ⟨gb,ob+k*3+2,none⟩=some (.slice yao xn yc)):=fun w2 hb=>keepC2 (p:=(ga,oa+k*3+2)) (q:=(gb,ob+k*3+2)) hb a2 b2
   clear k1 k2 k4 l1 l2 l3 l4
   have e1:(k:Int)<(n:Int):=by omega
   have e2:(0:Int)<=(k:Int):=by omega
   go_wp2
   go_region_held3 (fun w'=>w'.cell? ⟨ga,oa+k*3+2,none⟩=some (.slice xao xn xc)/\w'.cell? ⟨gb,ob+k*3+2,none⟩=some (.slice yao xn yc)) (first|go_keep|exact HKEEP _ (by assumption)) ((go_at_call 212;refine(sameInts_any _ _ _ _ _ xl _ ?_ ?_ K2.out (by omega)).mono ?_;exact K1.out;exact L1.out;rintro e w2 ⟨rfl,hb2⟩))
   all_goals
    have c0:=cell_move hb2 a0 (cell_lt a0)
    have c1:=cell_move hb2 a1 (cell_lt a1)
    have d0:=cell_move hb2 b0 (cell_lt b0)
    have d1:=cell_move hb2 b1 (cell_lt b1)
    have g1:(xid !=xid)=false:=by simp
    have g2:(xpos !=xpos)=false:=by simp
    have hszw:=hbl.size
    go_wp2
    go_quiet (fail)
    go_wp2
    go_roundw
    case rel=>exact⟨k+1,by omega,by go_num,below_drewN (hbl.drew.trans (hb2.mono (by simpa using hszw))) _⟩
    case measure=>simp[intOf];omega
  ·go_wp2
   go_ret
   exact⟨rfl,hbl⟩
theorem sameTx_any (t:Int) (ao bo:OAd) (n c d:Nat) (xs ys:List InD) (ap bp:OAd) (m e f:Nat) (zs:LII) (w:World) (h1:InsAt w ao xs) (h2:InsAt w bo ys) (hn:xs.length=n) (hy:ys.length=n) (hs:xs.map InD.st=ys.map InD.st) (hm:n<=1000000) (o1:OutsAt w ap zs) (o2:OutsAt w bp zs) (hz:zs.length=m) (hzm:m<=1000000):
 Calls Tryz.prog 120 #[.agg #[.int .i64 t,.slice ao n c,.slice ap m e],.agg #[.int .i64 t,.slice bo n d,.slice bp m f]] w fun e w'=>e=.returned (.bool true)/\Below w.heap.size w w':=by
 have hbA:Below w.heap.size w ((w.alloc (.cells #[.int .i64 t,.slice ao n c,.slice ap m e] 35)).alloc (.cells #[.int .i64 t,.slice bo n d,.slice bp m f] 35)):=(bAl _ _).alloc (by simp) _
 have H1:=hiD (h1.grown hbA)
 have H2:=hiD (h2.grown hbA)
 have O1:=hiD (o1.grown hbA)
 have O2:=hiD (o2.grown hbA)
 have HN:=hiD hn
 have HY:=hiD hy
 have HS:=hiD hs
 have HZ:=hiD hz
 obtain⟨x0,x1,x2⟩:((w.alloc (.cells #[.int .i64 t,.slice ao n c,.slice ap m e] 35)).alloc (.cells #[.int .i64 t,.slice bo n d,.slice bp m f] 35)).cell? ⟨w.heap.size,0,none⟩=some (.int .i64 t)/\((w.alloc (.cells #[.int .i64 t,.slice ao n c,.slice ap m e] 35)).alloc (.cells #[.int .i64 t,.slice bo n d,.slice bp m f] 35)).cell? ⟨w.heap.size,1,none⟩=some (.slice ao n c)/\((w.alloc (.cells #[.int .i64 t,.slice ao n c,.slice ap m e] 35)).alloc (.cells #[.int .i64 t,.slice bo n d,.slice bp m f] 35)).cell? ⟨w.heap.size,2,none⟩=some (.slice ap m e):=by
  have h:=(vrow_new w [.int .i64 t,.slice ao n c,.slice ap m e] 35).grown ((Below.refl _ _).alloc leR (.cells #[.int .i64 t,.slice bo n d,.slice bp m f] 35))
  exact⟨h 0 (by simp),h 1 (by simp),h 2 (by simp)⟩
 obtain⟨z0,z1,z2⟩:((w.alloc (.cells #[.int .i64 t,.slice ao n c,.slice ap m e] 35)).alloc (.cells #[.int .i64 t,.slice bo n d,.slice bp m f] 35)).cell? ⟨w.heap.size+1,0,none⟩=some (.int .i64 t)/\((w.alloc (.cells #[.int .i64 t,.slice ao n c,.slice ap m e] 35)).alloc (.cells #[.int .i64 t,.slice bo n d,.slice bp m f] 35)).cell? ⟨w.heap.size+1,1,none⟩=some (.slice bo n d)/\((w.alloc (.cells #[.int .i64 t,.slice ao n c,.slice ap m e] 35)).alloc (.cells #[.int .i64 t,.slice bo n d,.slice bp m f] 35)).cell? ⟨w.heap.size+1,2,none⟩=some (.slice bp m f):=by
  have h:=vrow_new (w.alloc (.cells #[.int .i64 t,.slice ao n c,.slice ap m e] 35)) [.int .i64 t,.slice bo n d,.slice bp m f] 35
  rw[World.size_alloc] at h
  exact⟨h 0 (by simp),h 1 (by simp),h 2 (by simp)⟩
 clear h1 h2 hn hy hs o1 o2 hz
 go_enter Tryz.func120,Tryz.ntmps120
 go_wp2_with fail
 generalize (w.alloc (.cells #[.int .i64 t,.slice ao n c,.slice ap m e] 35)).alloc (.cells #[.int .i64 t,.slice bo n d,.slice bp m f] 35)=w1 at *
 have hb0:=hbA
 generalize hX:w.heap.size=X at *
 have HX:=hiD hX
 clear hX
 have hz1:X+1<w1.heap.size:=cell_lt z0
 refine(sameIns_any ao bo n c d xs ys _ H1 H2 HN HY HS hm).mono ?_
 rintro e9 w2 ⟨rfl,hb2⟩
 have p0:=(hb2.cell (p:=⟨X,0,none⟩) (by simp only;omega)).trans x0
 have p2:=(hb2.cell (p:=⟨X,2,none⟩) (by simp only;omega)).trans x2
 have r0:=(hb2.cell (p:=⟨X+1,0,none⟩) (by simp only;omega)).trans z0
 have r2:=(hb2.cell (p:=⟨X+1,2,none⟩) (by simp only;omega)).trans z2
 have O12:=hiD (O1.out.grown hb2)
 have O22:=hiD (O2.out.grown hb2)
 have hB2:Below X w w2:=hbA.trans (hb2.mono (by omega))
 have hz2:=hb2.size
 clear x0 x1 x2 z0 z1 z2 O1 O2 H1 H2 hb0 hbA hb2
 go_wp2_with fail
 refine(sameOuts_any ap bp m e f zs _ O12.out O22.out HZ (by omega)).mono ?_
 rintro e9 w3 ⟨rfl,hb3⟩
 have s0:=(hb3.cell (p:=⟨X,0,none⟩) (by simp only;omega)).trans p0
 have t0:=(hb3.cell (p:=⟨X+1,0,none⟩) (by simp only;omega)).trans r0
 have HB3:Hid (Below X w w3):=hB2.trans (hb3.mono (by omega))
 clear p0 p2 r0 r2 hB2 hb3
 go_wp2
 go_ret
 exact⟨ret_bool (by simp),by rw[HX.out];exact HB3⟩
theorem six_at (h:VRow w X 0 [a0,a1,a2,a3,a4,a5]):w.cell? ⟨X,0,none⟩=some a0/\w.cell? ⟨X,1,none⟩=some a1/\w.cell? ⟨X,2,none⟩=some a2/\w.cell? ⟨X,3,none⟩=some a3/\w.cell? ⟨X,4,none⟩=some a4/\w.cell? ⟨X,5,none⟩=some a5:=
 ⟨h 0 (by simp),h 1 (by simp),h 2 (by simp),h 3 (by simp),h 4 (by simp),h 5 (by simp)⟩
theorem samePaid_any (num t ch:Int) (ao bo:OAd) (n c d:Nat) (xs ys:List InD) (ap bp:OAd) (m e f:Nat) (zs:LII) (ak bk:OAd) (q u v:Nat) (ks:List CoinD) (w:World) (h1:InsAt w ao xs) (h2:InsAt w bo ys) (hn:xs.length=n) (hy:ys.length=n) (hs:xs.map InD.st=ys.map InD.st) (hm:n<=1000000) (o1:OutsAt w ap zs) (o2:OutsAt w bp zs) (hz:zs.length=m) (hzm:m<=1000000) (k1:RecAt kC w ak ks) (k2:RecAt kC w bk ks) (hk:ks.length=q) (hkm:q<=1000000):
 Calls Tryz.prog 115 #[.agg #[.int .i64 num,.int .i64 t,.slice ao n c,.slice ap m e,.slice ak q u,.int .i64 ch],.agg #[.int .i64 num,.int .i64 t,.slice bo n d,.slice bp m f,.slice bk q v,.int .i64 ch]] w fun e w'=>e=.returned (.bool true)/\Below w.heap.size w w':=by
 have hbA:Below w.heap.size w ((w.alloc (.cells #[.int .i64 num,.int .i64 t,.slice ao n c,.slice ap m e,.slice ak q u,.int .i64 ch] 38)).alloc (.cells #[.int .i64 num,.int .i64 t,.slice bo n d,.slice bp m f,.slice bk q v,.int .i64 ch] 38)):=(bAl _ _).alloc (by simp) _
 have H1:=hiD (h1.grown hbA)
 have H2:=hiD (h2.grown hbA)
 have O1:=hiD (o1.grown hbA)
 have O2:=hiD (o2.grown hbA)
 have K1:=hiD (k1.grown hbA)
 have K2:=hiD (k2.grown hbA)
 have HN:=hiD hn
 have HY:=hiD hy
 have HS:=hiD hs
 have HZ:=hiD hz
 have HK:=hiD hk
 obtain⟨x0,x1,x2,x3,x4,x5⟩:=six_at ((vrow_new w [.int .i64 num,.int .i64 t,.slice ao n c,.slice ap m e,.slice ak q u,.int .i64 ch] 38).grown ((Below.refl _ _).alloc leR (.cells #[.int .i64 num,.int .i64 t,.slice bo n d,.slice bp m f,.slice bk q v,.int .i64 ch] 38)))
 obtain⟨z0,z1,z2,z3,z4,z5⟩:=six_at (vrow_new (w.alloc (.cells #[.int .i64 num,.int .i64 t,.slice ao n c,.slice ap m e,.slice ak q u,.int .i64 ch] 38)) [.int .i64 num,.int .i64 t,.slice bo n d,.slice bp m f,.slice bk q v,.int .i64 ch] 38)
 rw[World.size_alloc] at z0 z1 z2 z3 z4 z5
 clear h1 h2 hn hy hs o1 o2 hz k1 k2 hk
 go_enter Tryz.func115,Tryz.ntmps115
 go_wp2_with fail
 generalize (w.alloc (.cells #[.int .i64 num,.int .i64 t,.slice ao n c,.slice ap m e,.slice ak q u,.int .i64 ch] 38)).alloc (.cells #[.int .i64 num,.int .i64 t,.slice bo n d,.slice bp m f,.slice bk q v,.int .i64 ch] 38)=w1 at *
 generalize hX:w.heap.size=X at *
 have HX:=hiD hX
 clear hX
 have hz1:X+1<w1.heap.size:=cell_lt z0
 refine(sameTx_any t ao bo n c d xs ys ap bp m e f zs _ H1 H2 HN HY HS hm O1.out O2.out HZ hzm).mono ?_
 rintro e9 w2 ⟨rfl,hb2⟩
 have p0:=(hb2.cell (p:=⟨X,0,none⟩) (by simp only;omega)).trans x0
 have p4:=(hb2.cell (p:=⟨X,4,none⟩) (by simp only;omega)).trans x4
 have p5:=(hb2.cell (p:=⟨X,5,none⟩) (by simp only;omega)).trans x5
 have r0:=(hb2.cell (p:=⟨X+1,0,none⟩) (by simp only;omega)).trans z0
 have r4:=(hb2.cell (p:=⟨X+1,4,none⟩) (by simp only;omega)).trans z4
 have r5:=(hb2.cell (p:=⟨X+1,5,none⟩) (by simp only;omega)).trans z5
 have K12:=hiD (K1.out.grown hb2)
 have K22:=hiD (K2.out.grown hb2)
 have hB2:Below X w w2:=hbA.trans (hb2.mono (by omega))
 have hz2:=hb2.size
 clear x0 x1 x2 x3 x4 x5 z0 z1 z2 z3 z4 z5 O1 O2 H1 H2 K1 K2 hbA hb2
 go_wp2_with fail
 refine(sameKeys_any ak bk q u v ks _ K12.out K22.out HK hkm).mono ?_
 rintro e9 w3 ⟨rfl,hb3⟩
 have s0:=(hb3.cell (p:=⟨X,0,none⟩) (by simp only;omega)).trans p0
 have s5:=(hb3.cell (p:=⟨X,5,none⟩) (by simp only;omega)).trans p5
 have t0:=(hb3.cell (p:=⟨X+1,0,none⟩) (by simp only;omega)).trans r0
 have t5:=(hb3.cell (p:=⟨X+1,5,none⟩) (by simp only;omega)).trans r5
 have HB3:Hid (Below X w w3):=hB2.trans (hb3.mono (by omega))
 clear p0 p4 p5 r0 r4 r5 hB2 hb3
 go_wp2
 go_ret
 exact⟨ret_bool (by simp),by rw[HX.out];exact HB3⟩
def sgI0 (s id:Int) (x:CoinD):InD:=⟨x.id,x.pos,none,5,0,Mk.sealL s x.br x.ix id⟩
theorem keepD6 {p:Nat} (hb:Below w.heap.size w w') (h:w.cell? ⟨D,0,none⟩=some d/\w.cell? ⟨X,4,none⟩=some x/\w.cell? ⟨a,p,none⟩=some y/\w.cell? ⟨a,p+1,none⟩=some z):w'.cell? ⟨D,0,none⟩=some d/\w'.cell? ⟨X,4,none⟩=some x/\w'.cell? ⟨a,p,none⟩=some y/\w'.cell? ⟨a,p+1,none⟩=some z:=
 ⟨(hb.cell (p:=⟨D,0,none⟩) (cell_lt h.1)).trans h.1,(hb.cell (p:=⟨X,4,none⟩) (cell_lt h.2.1)).trans h.2.1,(hb.cell (p:=⟨a,p,none⟩) (cell_lt h.2.2.1)).trans h.2.2.1,(hb.cell (p:=⟨a,p+1,none⟩) (cell_lt h.2.2.2)).trans h.2.2.2⟩
def RdNew (b:Nat) (s:Int) (m:MadeD) (v1 v2:Value) (w:World):Prop:=
 ∃ bi bn bc bp bm bd is,v1=.slice bi bn bc/\v2=.slice bp bm bd/\InsAt w bi is/\is.length=bn/\is.map InD.st=m.cs.map (sgI0 s (idZ m.tag (m.cs.map CoinD.inD) m.zs))/\OutsAt w bp m.zs/\m.zs.length=bm/\(∀ a,bi=some a->b<=a.block)/\(∀ y∈is,∀ a,y.ao=some a->b<=a.block)/\(∀ a,bp=some a->b<=a.block)
theorem RdNew.fr (h:RdNew b s m v1 v2 w) (hf:Fr E w w') (he:∀ k,b<=k->¬E k):RdNew b s m v1 v2 w':=by
 obtain⟨bi,bn,bc,bp,bm,bd,is,e1,e2,h1,h2,h3,h4,h5,h6,h7,h8⟩:=h
 exact⟨bi,bn,bc,bp,bm,bd,is,e1,e2,ins_fr hf h1 (fun _ a ha=>he _ (h6 a ha)) (fun y hy _ a ha=>he _ (h7 y hy a ha)),h2,h3,outsAt_fr hf h4 (fun _ a ha=>he _ (h8 a ha)),h5,h6,h7,h8⟩
theorem RdNew.grown (h:RdNew b s m v1 v2 w) (hb:Below w.heap.size w w'):RdNew b s m v1 v2 w':=h.fr (Fr.of_below hb (fun _=>False)) (fun _ _ h=>h)
theorem RdNew.lower (h:RdNew b s m v1 v2 w) (hb:b'<=b):RdNew b' s m v1 v2 w:=by
 obtain⟨bi,bn,bc,bp,bm,bd,is,e1,e2,h1,h2,h3,h4,h5,h6,h7,h8⟩:=h
 exact⟨bi,bn,bc,bp,bm,bd,is,e1,e2,h1,h2,h3,h4,h5,fun a ha=>leT hb (h6 a ha),fun y hy a ha=>leT hb (h7 y hy a ha),fun a ha=>leT hb (h8 a ha)⟩
theorem signed_any (Nd:NPr) (D:Nat) (s:Int) (m:MadeD) (w:World) (hd0:w.cell? ⟨D,0,none⟩=some (.int .i64 s)) (hm:MadeOk Nd w m) (hk:∀ x∈m.cs,Mk.isK s x.br x.ix=true) (hz:m.zs≠[]):
 Calls Tryz.prog 176 #[.pointer (some ⟨D,0,none⟩),.agg #[.int .i64 m.num,.int .i64 m.tag,.slice m.ai m.n m.c,.slice m.ap m.m m.d,.slice m.ak m.q m.e,.int .i64 m.ch,.slice m.ac m.x m.y,.bool m.lv,.bool m.sg]] w fun e w'=>∃ bi bn bc bp bm bd,e=.returned (.agg #[.int .i64 m.tag,.slice bi bn bc,.slice bp bm bd])/\RdNew w.heap.size s m (.slice bi bn bc) (.slice bp bm bd) w'/\Below w.heap.size w w':=by
 have bA:Below w.heap.size w ((w.alloc (.cells #[.int .i64 m.num,.int .i64 m.tag,.slice m.ai m.n m.c,.slice m.ap m.m m.d,.slice m.ak m.q m.e,.int .i64 m.ch,.slice m.ac m.x m.y,.bool m.lv,.bool m.sg] 187)).alloc (.cells #[.int .i64 0,.slice none 0 0,.slice none 0 0] 35)):=(bAl _ _).alloc (by simp) _
 have HV0:Hid (V9 ((w.alloc (.cells #[.int .i64 m.num,.int .i64 m.tag,.slice m.ai m.n m.c,.slice m.ap m.m m.d,.slice m.ak m.q m.e,.int .i64 m.ch,.slice m.ac m.x m.y,.bool m.lv,.bool m.sg] 187)).alloc (.cells #[.int .i64 0,.slice none 0 0,.slice none 0 0] 35)) w.heap.size m):=(V9.new w m).grown (bAl _ _)
 have HR0:Hid (V3 ((w.alloc (.cells #[.int .i64 m.num,.int .i64 m.tag,.slice m.ai m.n m.c,.slice m.ap m.m m.d,.slice m.ak m.q m.e,.int .i64 m.ch,.slice m.ac m.x m.y,.bool m.lv,.bool m.sg] 187)).alloc (.cells #[.int .i64 0,.slice none 0 0,.slice none 0 0] 35)) (w.heap.size+1) (.int .i64 0) (.slice none 0 0) (.slice none 0 0)):=by
  have:=V3.new (w.alloc (.cells #[.int .i64 m.num,.int .i64 m.tag,.slice m.ai m.n m.c,.slice m.ap m.m m.d,.slice m.ak m.q m.e,.int .i64 m.ch,.slice m.ac m.x m.y,.bool m.lv,.bool m.sg] 187)) (.int .i64 0) (.slice none 0 0) (.slice none 0 0) 35
  rwa [World.size_alloc] at this
 have HM0:=hiD (hm.grown bA)
 have HD0:Hid (((w.alloc (.cells #[.int .i64 m.num,.int .i64 m.tag,.slice m.ai m.n m.c,.slice m.ap m.m m.d,.slice m.ak m.q m.e,.int .i64 m.ch,.slice m.ac m.x m.y,.bool m.lv,.bool m.sg] 187)).alloc (.cells #[.int .i64 0,.slice none 0 0,.slice none 0 0] 35)).cell? ⟨D,0,none⟩=some (.int .i64 s)):=(bA.cell (p:=⟨D,0,none⟩) (cell_lt hd0)).trans hd0
 have HB0:=hiD bA
 have HKY:=hiD hk
 clear hd0 hm bA hk
 go_enter Tryz.func176,Tryz.ntmps176
 go_upto_region 1 with fail
 generalize (w.alloc (.cells #[.int .i64 m.num,.int .i64 m.tag,.slice m.ai m.n m.c,.slice m.ap m.m m.d,.slice m.ak m.q m.e,.int .i64 m.ch,.slice m.ac m.x m.y,.bool m.lv,.bool m.sg] 187)).alloc (.cells #[.int .i64 0,.slice none 0 0,.slice none 0 0] 35)=w0 at *
 generalize hXe:w.heap.size=X at *
 have HXE:=hiD hXe
 clear hXe
 have hXl:X<w0.heap.size:=cell_lt HV0.out.c0
 have hRl:X+1<w0.heap.size:=cell_lt HR0.out.c0
 obtain⟨dnum,dtag,dai,dn,dc,dap,dm,dd,dak,dq,de,dch,dac,dx,dy,dlv,dsg,dcs,dzs⟩:=m
 simp only at hz HKY ⊢
 have HLN:Hid (dcs.length=dn/\dzs.length=dm/\dcs.length=dq/\dcs.length<=10/\dzs.length<=8):=⟨HM0.out.ln,HM0.out.lm,HM0.out.lq,HM0.out.b1,HM0.out.b2⟩
 have HIA:Hid (InsAt w0 dai (dcs.map CoinD.inD)):=inC_insQ HM0.out.ins
 have HOA:Hid (OutsAt w0 dap dzs):=rec_outs HM0.out.outs
 obtain⟨_,v1,v2,v3,_⟩:=HV0.out
 simp only at v1 v2 v3
 go_wp2_with fail
 refine(rId_any dtag dai dn dc dap dm dd (dcs.map CoinD.inD) dzs _ HIA (by rw[List.length_map];exact HLN.out.1) HOA HLN.out.2.1).mono ?_
 rintro e w1 ⟨rfl,hb1⟩
 have HIM:Hid (Mk.isM (idZ dtag (dcs.map CoinD.inD) dzs)=true):=idZ_bd _ _ _
 generalize hide:idZ dtag (dcs.map CoinD.inD) dzs=id at *
 have HIDE:=hiD hide
 clear hide
 have HV1:=hiD (HV0.out.grown hb1)
 have HR1:=hiD (HR0.out.grown hb1)
 have HM1:=hiD (HM0.out.grown hb1)
 have HD1:Hid (w1.cell? ⟨D,0,none⟩=some (.int .i64 s)):=(hb1.cell (p:=⟨D,0,none⟩) (cell_lt HD0.out)).trans HD0.out
 have HB1:Hid (Below X w w1):=HB0.out.trans (hb1.mono (by omega))
 have hz1:w0.heap.size<=w1.heap.size:=hb1.size
 clear v1 v2 v3 hb1 HIA HOA HV0 HR0 HM0 HD0 HB0
 have hne:dap≠none:=by
  intro e
  subst e
  rcases HM1.out.outs with h|⟨b,off,h,_⟩
  ·exact hz h
  ·cases h
 obtain⟨da,hda⟩:∃ a,dap=some a:=by cases dap with|none=>exact absurd rfl hne|some a=>exact⟨a,rfl⟩
 subst hda
 clear hne
 have bB:Below w1.heap.size w1 (w1.alloc (.cells #[.int .i64 dtag,.slice none 0 0,.slice none 0 0] 35)):=(Below.refl _ _).alloc leR _
 have HT2:Hid (Tx3 (w1.alloc (.cells #[.int .i64 dtag,.slice none 0 0,.slice none 0 0] 35)) w1.heap.size (.int .i64 dtag) (.slice none 0 0) (.slice none 0 0)):=Tx3.new w1 _ _ _ _
 have HV2:=hiD (HV1.out.grown bB)
 have HO2:Hid (OutsAt (w1.alloc (.cells #[.int .i64 dtag,.slice none 0 0,.slice none 0 0] 35)) (some da) dzs):=(rec_outs HM1.out.outs).grown bB
 have HB12:=hiD bB
 obtain⟨_,v1,_⟩:=HV1.out
 simp only at v1
 go_upto_region 3 with fail
 clear bB v1
 generalize hw2:w1.alloc (.cells #[.int .i64 dtag,.slice none 0 0,.slice none 0 0] 35)=w2 at *
 clear hw2
 generalize hTe:w1.heap.size=T at *
 have HTE:=hiD hTe
 clear hTe
 have hTl:T<w2.heap.size:=cell_lt HT2.out.c0
 obtain⟨_,_,_,v3,_⟩:=HV2.out
 simp only at v3
 have t2c:=HT2.out.c2
 have t2f:=HT2.out.f2
 go_wp2_with fail
 refine(copiedOuts_any da dm dd dzs _ HO2 HLN.out.2.1 (by have:=HLN.out;omega)).mono ?_
 rintro e w3 ⟨rfl,ho3,hb3⟩
 have hz3:=hb3.size
 generalize hOe:w2.heap.size=O at *
 have hTO:T<O:=hTl
 have hOl:O<w3.heap.size:=(ho3.blk O rfl).2
 have hTl3:T<w3.heap.size:=by omega
 have hfT:Fr (fun k=>k=T) w3 (w3.setCell ⟨T,2,none⟩ (.slice (some ⟨O,0,none⟩) dm dm)):=(Fr.refl (fun k=>k=T) w3).set T 2 _ (fun _=>rfl)
 have HT3:Hid (Tx3 w3 T (.int .i64 dtag) (.slice none 0 0) (.slice none 0 0)):=HT2.out.grown (by rw[hOe];exact hb3)
 have HI4:Hid (SInvT w1 T (fun j x=>InD.st x=sgI0 s id (dcs.getD j dN)) dtag (.slice none 0 0) (.slice (some ⟨O,0,none⟩) dm dm) [] (w3.setCell ⟨T,2,none⟩ (.slice (some ⟨O,0,none⟩) dm dm))):=
  ⟨OwnIns.nil _ _,fun j hj=>absurd hj (Nat.not_lt_zero _),HT3.out.set2 _,((HB12.out.trans (hb3.mono (by omega))).setCell leR _),by rw[World.size_setCell];exact hTl3⟩
 have HO4:Hid (OutsAt (w3.setCell ⟨T,2,none⟩ (.slice (some ⟨O,0,none⟩) dm dm)) (some ⟨O,0,none⟩) dzs):=by
  obtain⟨a',c',e',hr⟩:=OwnRec.at kv2 ho3
  injection e' with e' _ _
  subst e'
  exact outsAt_fr hfT (rec_outs hr) (fun _ x hx=>by injection hx with hx;subst hx;show ¬O=T;omega)
 have t3c:=HT3.out.c2
 have t3f:=HT3.out.f2
 clear v3 t2c t2f ho3 hb3 hOe hfT HT2 HT3 HV2 HO2 HB12
 go_wp2
 generalize hWl:w3.setCell ⟨T,2,none⟩ (.slice (some ⟨O,0,none⟩) dm dm)=w4 at *
 have hOl4:O<w4.heap.size:=by rw[<-hWl,World.size_setCell];exact hOl
 clear hWl t3c t3f
 have dn10:dn<=10:=by have:=HLN.out;omega
 go_loopw [7] (fun i wr=>∃ (k:Nat) (vi:Value) (is:List InD),k<=dn/\i=.int .i64 k/\Hid (is.length=k)/\Hid (SInvT w1 T (fun j x=>InD.st x=sgI0 s id (dcs.getD j dN)) dtag vi (.slice (some ⟨O,0,none⟩) dm dm) is wr)/\Hid (OutsAt wr (some ⟨O,0,none⟩) dzs)/\Hid (∀ b,vi.ownBlock=some b->b≠O)/\O<wr.heap.size) (fun i _=>dn-(intOf i).toNat)
 case atStart=>exact⟨0,_,[],Nat.zero_le _,rfl,rfl,HI4,HO4,fun b hb=>(by cases hb),hOl4⟩
 case round=>
  obtain⟨k,vi,is,hk,rfl,hisl,hinv,hou,hvo,hOr⟩:=hrel
  have hwr:Below w1.heap.size w1 wr:=by rw[HTE.out];exact hinv.out.bel
  have hszr:=hinv.out.lt
  have HVr:=hiD (HV1.out.grown hwr)
  have HMr:=hiD (HM1.out.grown hwr)
  have d0:=(hwr.cell (p:=⟨D,0,none⟩) (cell_lt HD1.out)).trans HD1.out
  have HBW:Hid (Below X w wr):=HB1.out.trans (hwr.mono (by have:=HTE.out;omega))
  obtain⟨_,_,v2,_,v4,_⟩:=HVr.out
  simp only at v2 v4
  by_cases hlt:k<dn
  ·have hkl:k<dcs.length:=by have:=HLN.out;omega
   have hkI:(k:Int)<(dn:Int):=by omega
   have hkQ:(k:Int)<(dq:Int):=by have:=HLN.out;omega
   have hk0:(0:Int)<=(k:Int):=by omega
   rcases HMr.out.ins with hnil|⟨gi,oi,hdai,hri⟩
   ·simp only at hnil;rw[hnil] at hkl;simp at hkl
   rcases HMr.out.keys with hnil|⟨gk,ok,hdak,hrk⟩
   ·simp only at hnil;rw[hnil] at hkl;simp at hkl
   simp only at hdai hdak hri hrk
   rw[hdai] at v2
   rw[hdak] at v4
   have c0:wr.cell? ⟨gi,oi+k*3,none⟩=some (.int .i64 (dcs.getD k dN).id):=rcell inC3 dN hri k hkl 0 (by omega)
   have c1:wr.cell? ⟨gi,oi+k*3+1,none⟩=some (.int .i64 (dcs.getD k dN).pos):=rcell inC3 dN hri k hkl 1 (by omega)
   have c2:wr.cell? ⟨gi,oi+k*3+2,none⟩=some (.slice none 0 0):=rcell inC3 dN hri k hkl 2 (by omega)
   have k0c:wr.cell? ⟨gk,ok+k*2,none⟩=some (.int .i64 (dcs.getD k dN).br):=rcell kC2 dN hrk k hkl 0 (by omega)
   have k1c:wr.cell? ⟨gk,ok+k*2+1,none⟩=some (.int .i64 (dcs.getD k dN).ix):=rcell kC2 dN hrk k hkl 1 (by omega)
   have HKE:Hid (Mk.isK s (dcs.getD k dN).br (dcs.getD k dN).ix=true):=HKY.out _ (getD_mem dcs dN k hkl)
   have HYK:Hid (sgI0 s id (dcs.getD k dN)=⟨(dcs.getD k dN).id,(dcs.getD k dN).pos,none,5,0,Mk.sealL s (dcs.getD k dN).br (dcs.getD k dN).ix id⟩):=rfl
   clear hri hrk hdai hdak
   generalize hyd:sgI0 s id (dcs.getD k dN)=yd at *
   have HYD:=hiD hyd
   clear hyd
   generalize (dcs.getD k dN).id=y0 at *
   generalize (dcs.getD k dN).pos=y1 at *
   generalize (dcs.getD k dN).br=y2 at *
   generalize (dcs.getD k dN).ix=y3 at *
   have bI:Below wr.heap.size wr (wr.alloc (.cells #[.int .i64 y0,.int .i64 y1,.slice none 0 0] 115)):=(Below.refl _ _).alloc leR _
   have i0:(wr.alloc (.cells #[.int .i64 y0,.int .i64 y1,.slice none 0 0] 115)).cell? ⟨wr.heap.size,0,none⟩=some (.int .i64 y0):=by rw[World.cell?_alloc_new];rfl
   have i1:(wr.alloc (.cells #[.int .i64 y0,.int .i64 y1,.slice none 0 0] 115)).cell? ⟨wr.heap.size,1,none⟩=some (.int .i64 y1):=by rw[World.cell?_alloc_new];rfl
   have HBI:=hiD bI
   have HKX:Hid ((wr.alloc (.cells #[.int .i64 y0,.int .i64 y1,.slice none 0 0] 115)).drew.cell? ⟨D,0,none⟩=some (.int .i64 s)/\(wr.alloc (.cells #[.int .i64 y0,.int .i64 y1,.slice none 0 0] 115)).drew.cell? ⟨X,4,none⟩=some (.slice (some ⟨gk,ok,none⟩) dq de)/\(wr.alloc (.cells #[.int .i64 y0,.int .i64 y1,.slice none 0 0] 115)).drew.cell? ⟨gk,ok+k*2,none⟩=some (.int .i64 y2)/\(wr.alloc (.cells #[.int .i64 y0,.int .i64 y1,.slice none 0 0] 115)).drew.cell? ⟨gk,ok+k*2+1,none⟩=some (.int .i64 y3)):=keepD6 (bI.drew) ⟨d0,v4,k0c,k1c⟩
   go_upto_region 8 with fail
   clear c0 c1 c2 v2 v4 k0c k1c d0 bI
   generalize wr.alloc (.cells #[.int .i64 y0,.int .i64 y1,.slice none 0 0] 115)=w5 at *
   obtain⟨d0,v4,k0c,k1c⟩:=HKX.out
   have HI0:Hid (w5.cell? ⟨wr.heap.size,0,none⟩=some (.int .i64 y0)/\w5.cell? ⟨wr.heap.size,1,none⟩=some (.int .i64 y1)):=⟨i0,i1⟩
   clear i0 i1
   go_region_held3 (fun w'=>w'.cell? ⟨D,0,none⟩=some (.int .i64 s)/\w'.cell? ⟨X,4,none⟩=some (.slice (some ⟨gk,ok,none⟩) dq de)/\w'.cell? ⟨gk,ok+k*2,none⟩=some (.int .i64 y2)/\w'.cell? ⟨gk,ok+k*2+1,none⟩=some (.int .i64 y3)) (first|go_keep|with_reducible exact HKX.out|exact keepD6 hb6 HKX.out) ((go_at_call 211;(with_reducible refine(sealed_any s y2 y3 id w5.drew HKE.out HIM.out).mono ?_);rintro e w6 ⟨vs,rfl,hos,hb6⟩;obtain⟨sa,cz,rfl,hia,hcp⟩:=hos.slice))
   have hb56:Below w5.heap.size w5 w6:=below_blk (Below.refl _ _).drew hb6
   have hbr6:Below wr.heap.size wr w6:=below_blk HBI.out hb56
   have i0:=(hb56.cell (p:=⟨wr.heap.size,0,none⟩) (cell_lt HI0.out.1)).trans HI0.out.1
   have i1:=(hb56.cell (p:=⟨wr.heap.size,1,none⟩) (cell_lt HI0.out.2)).trans HI0.out.2
   have hs6:=hinv.out.grown hbr6
   have HSB:Hid (∀ a,sa=some a->wr.heap.size<=a.block/\a.block<w6.heap.size):=fun a ha=>by
    have h1:=hos.blk a.block (by rw[ha];rfl)
    have h2:=HBI.out.size
    exact⟨by have:w5.heap.size<=a.block:=h1.1;omega,h1.2⟩
   have HIA6:=hiD hia
   have HSL:Hid ((Mk.sealL s y2 y3 id).length=5):=Mk.sealL_len _ _ _ _
   have HN0:Hid (sa=none->cz=0):=fun e=>by
    subst e
    rcases hia with h|⟨b,off,h,_⟩
    ·have:=HSL.out;rw[h] at this;cases this
    ·cases h
   have HO6:=hiD (hou.out.grown hbr6)
   clear hos hia hcp hb6 hb56 d0 v4 k0c k1c HKX HI0
   generalize hsl:Mk.sealL s y2 y3 id=sl at *
   clear hsl
   have t1:=hs6.tx.c1
   have tf1:=hs6.tx.f1
   have hTl6:T<w6.heap.size:=hs6.lt
   have hvX:some T≠vi.ownBlock:=fun e=>by have:=(owns_blk hs6.own _ e.symm).1;omega
   have HVX:=hiD hvX
   have HOI:=hiD hs6.own
   have hln:is.length<=3518437208780:=by rw[hisl.out];have:=HLN.out;omega
   have HSI:=hiD hinv.out
   have HB6:=hiD hbr6
   have hT1:T+1<=w6.heap.size:=hTl6
   have hOr6:O<w6.heap.size:=ltL hOr hbr6.size
   clear hs6 hbr6 hvX hinv
   go_wp2_with (at_builtin;refine wpList_appIn w6 rfl _ _ rfl (T+1) vi is ⟨y0,y1,sa,sl.length,cz,sl⟩ (by rfl) (by rfl) HOI hT1 hln ?_;intro g cap w7 hown7 hg7 hl7 hlt7;have q1:=gb_cell hg7 t1 HVX.out;have qf:=(gb_frozen hg7 (b:=T) (o:=1) hTl6 HVX).trans tf1)
   have HP:Hid (SInvT w1 T (fun j x=>InD.st x=sgI0 s id (dcs.getD j dN)) dtag (.slice (some ⟨g,0,none⟩) (is.length+1) cap) (.slice (some ⟨O,0,none⟩) dm dm) (is++[⟨y0,y1,sa,sl.length,cz,sl⟩]) (w7.setCell ⟨T,1,none⟩ (.slice (some ⟨g,0,none⟩) (is.length+1) cap))):=HSI.out.push HB6.out ⟨HIA6.out,rfl,by show sl.length<=_;rw[HSL.out];omega,HN0.out⟩ (by
    rw[hisl.out,HYD.out]
    rw[HYK.out]
    show(⟨y0,y1,none,sl.length,0,sl⟩:InD)=_
    rw[HSL.out]) HSB.out hown7 hg7 hl7
   have HFO:Hid (OutsAt (w7.setCell ⟨T,1,none⟩ (.slice (some ⟨g,0,none⟩) (is.length+1) cap)) (some ⟨O,0,none⟩) dzs/\(∀ b,(Value.slice (some ⟨g,0,none⟩) (is.length+1) cap).ownBlock=some b->b≠O)/\O<(w7.setCell ⟨T,1,none⟩ (.slice (some ⟨g,0,none⟩) (is.length+1) cap)).heap.size):=by
    have hf7:Fr (fun q=>vi.ownBlock=some q\/q=T) w6 (w7.setCell ⟨T,1,none⟩ (.slice (some ⟨g,0,none⟩) (is.length+1) cap)):=(Fr.of_gb hg7 (fun q hq _=>Or.inl hq)).set T 1 _ (fun _=>Or.inr rfl)
    refine⟨outsAt_fr hf7 HO6 (fun _ x hx e=>?_),fun b hb e=>?_,ltL hOr6 hf7.size⟩
    ·injection hx with hx
     subst hx
     rcases e with e|e
     ·exact hvo.out O e rfl
     ·have:O=T:=e
      omega
    ·simp[Value.ownBlock] at hb
     subst hb
     rcases hl7 with h1|h1
     ·exact hvo.out g h1 e
     ·omega
   go_roundw
   case rel=>exact⟨k+1,_,_,by omega,by go_num,by show List.length _=_;rw[List.length_append,hisl.out];rfl,HP,HFO.out.1,HFO.out.2.1,HFO.out.2.2⟩
   case measure=>simp[intOf];omega
  ·have hkn:k=dn:=by omega
   subst hkn
   obtain⟨aio,ci,hvi⟩:∃ aio ci,vi=.slice aio is.length ci:=by
    rcases hinv.out.own.cells with⟨h1,h2⟩|⟨g,cc,h1,_⟩
    ·subst h2;exact⟨_,_,h1⟩
    ·exact⟨_,_,h1⟩
   subst hvi
   have HIS:Hid (is.map InD.st=dcs.map (sgI0 s id)):=by
    show _=_
    apply List.ext_getElem
    ·rw[List.length_map,List.length_map,hisl.out];exact HLN.out.1.symm
    ·intro j h1 h2
     rw[List.length_map] at h1 h2
     have h3:=(hinv.out.ok j h1).2.1
     rw[List.getElem_map,List.getElem_map]
     have e1:is.getD j dIn=is[j]:=by simp[List.getD,h1]
     have e2:dcs.getD j dN=dcs[j]:=by simp[List.getD,h2]
     rw[<-e1,<-e2]
     exact h3
   have HIN:Hid (InsAt wr aio is):=by
    rcases hinv.out.own.cells with⟨h1,h2⟩|⟨g,cc,h1,_,_,h4,_⟩
    ·exact Or.inl h2
    ·injection h1 with h1 _ _
     exact Or.inr ⟨g,0,h1,fun j hj=>⟨by rw[Nat.zero_add];exact h4 j hj,(hinv.out.ok j hj).1⟩⟩
   have q0:=hinv.out.tx.c0
   have q1:=hinv.out.tx.c1
   have q2:=hinv.out.tx.c2
   have HRr:=hiD (HR1.out.grown hwr)
   obtain⟨r0,r1,r2,rf⟩:=HRr.out
   have rf0:=rf 0
   have rf1:=rf 1
   have rf2:=rf 2
   have hfR:=fr3K wr (X+1) (.int .i64 dtag) (.slice aio is.length ci) (.slice (some ⟨O,0,none⟩) dm dm)
   have HVF:Hid (V3 (((wr.setCell ⟨X+1,0,none⟩ (.int .i64 dtag)).setCell ⟨X+1,1,none⟩ (.slice aio is.length ci)).setCell ⟨X+1,2,none⟩ (.slice (some ⟨O,0,none⟩) dm dm)) (X+1) (.int .i64 dtag) (.slice aio is.length ci) (.slice (some ⟨O,0,none⟩) dm dm)):=((HRr.out.s0 _).s1 _).s2 _
   have hR1:X+1<T:=by have:=HTE.out;omega
   have HIF:Hid (InsAt (((wr.setCell ⟨X+1,0,none⟩ (.int .i64 dtag)).setCell ⟨X+1,1,none⟩ (.slice aio is.length ci)).setCell ⟨X+1,2,none⟩ (.slice (some ⟨O,0,none⟩) dm dm)) aio is):=by
    refine ins_fr hfR HIN (fun _ a ha e=>?_) (fun y hy _ a ha e=>?_)
    ·have:=(owns_blk hinv.out.own a.block (by rw[ha];rfl)).1
     have e':a.block=X+1:=e
     omega
    ·obtain⟨j,hj,e2⟩:=mem_getD dIn hy
     have:=((hinv.out.ok j hj).2.2 a (by rw[<-e2];exact ha)).1
     have e':a.block=X+1:=e
     omega
   have HOF:Hid (OutsAt (((wr.setCell ⟨X+1,0,none⟩ (.int .i64 dtag)).setCell ⟨X+1,1,none⟩ (.slice aio is.length ci)).setCell ⟨X+1,2,none⟩ (.slice (some ⟨O,0,none⟩) dm dm)) (some ⟨O,0,none⟩) dzs):=outsAt_fr hfR hou.out (fun _ x hx e=>by injection hx with hx;subst hx;have e':O=X+1:=e;omega)
   have HBF:Hid (Below X w (((wr.setCell ⟨X+1,0,none⟩ (.int .i64 dtag)).setCell ⟨X+1,1,none⟩ (.slice aio is.length ci)).setCell ⟨X+1,2,none⟩ (.slice (some ⟨O,0,none⟩) dm dm))):=HBW.out.trans (hfR.toBelow X (by omega) (fun q hq=>by omega))
   have HNB:Hid ((∀ a,aio=some a->X<=a.block)/\(∀ y∈is,∀ a,y.ao=some a->X<=a.block)):=by
    refine⟨fun a ha=>?_,fun y hy a ha=>?_⟩
    ·have:=(owns_blk hinv.out.own a.block (by rw[ha];rfl)).1
     omega
    ·obtain⟨j,hj,e2⟩:=mem_getD dIn hy
     have:=((hinv.out.ok j hj).2.2 a (by rw[<-e2];exact ha)).1
     omega
   clear hfR rf hinv
   go_wp2
   obtain⟨z0,z1,z2,_⟩:=HVF.out
   refine bodyPost_ret (v:=.agg #[.int .i64 dtag,.slice aio is.length ci,.slice (some ⟨O,0,none⟩) dm dm]) ?_ rfl ?_
   ·simp[results,Tryz.results176,go_sem,z0,z1,z2]
   ·exact⟨aio,is.length,ci,some ⟨O,0,none⟩,dm,dm,rfl,⟨aio,is.length,ci,some ⟨O,0,none⟩,dm,dm,is,rfl,rfl,HIF,rfl,by simp only[HIDE.out];exact HIS,HOF,HLN.out.2.1,by rw[HXE.out];exact HNB.out.1,by rw[HXE.out];exact HNB.out.2,fun a ha=>by injection ha with ha;subst ha;rw[HXE.out];show X<=O;omega⟩,by rw[HXE.out];exact HBF⟩
end
end Go.Proofs.YtffgpepngcnjeabGreat
