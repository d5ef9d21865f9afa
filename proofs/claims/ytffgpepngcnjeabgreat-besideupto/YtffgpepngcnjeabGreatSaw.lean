import Derived.Test.YtffgpepngcnjeabGreatSav
namespace Go.Proofs.YtffgpepngcnjeabGreat
set_option maxRecDepth 100000
set_option maxHeartbeats 4000000
section
open Go.RowKit
variable {w w':World} {b off:Nat} {N:NPr} {xs:List CoinD}
structure MadeD where
 num:Int
 tag:Int
 ai:OAd
 n:Nat
 c:Nat
 ap:OAd
 m:Nat
 d:Nat
 ak:OAd
 q:Nat
 e:Nat
 ch:Int
 ac:OAd
 x:Nat
 y:Nat
 lv:Bool
 sg:Bool
 cs:List CoinD
 zs:LII
def dM:MadeD:=⟨0,0,none,0,0,none,0,0,none,0,0,0,none,0,0,false,false,[],[]⟩
def MadeD.v (a:MadeD):List Value:=[.int .i64 a.num,.int .i64 a.tag,.slice a.ai a.n a.c,.slice a.ap a.m a.d,.slice a.ak a.q a.e,.int .i64 a.ch,.slice a.ac a.x a.y,.bool a.lv,.bool a.sg]
theorem made9 (a:MadeD):a.v.length=9:=rfl
theorem made_one (a:MadeD):∀ u∈a.v,u.oneCell'=true:=by
 intro u hu
 simp only[MadeD.v,List.mem_cons,List.not_mem_nil,or_false] at hu
 rcases hu with rfl|rfl|rfl|rfl|rfl|rfl|rfl|rfl|rfl<;>rfl
structure MadeCells (w:World) (b off:Nat) (a:MadeD):Prop where
 c0:w.cell? ⟨b,off,none⟩=some (.int .i64 a.num)
 c1:w.cell? ⟨b,off+1,none⟩=some (.int .i64 a.tag)
 c2:w.cell? ⟨b,off+2,none⟩=some (.slice a.ai a.n a.c)
 c3:w.cell? ⟨b,off+3,none⟩=some (.slice a.ap a.m a.d)
 c4:w.cell? ⟨b,off+4,none⟩=some (.slice a.ak a.q a.e)
 c5:w.cell? ⟨b,off+5,none⟩=some (.int .i64 a.ch)
 c6:w.cell? ⟨b,off+6,none⟩=some (.slice a.ac a.x a.y)
 c7:w.cell? ⟨b,off+7,none⟩=some (.bool a.lv)
 c8:w.cell? ⟨b,off+8,none⟩=some (.bool a.sg)
theorem madeCells {xs:List MadeD} (h:VRow w b off (xs.flatMap MadeD.v)) (j:Nat) (hj:j<xs.length):MadeCells w b (off+j*9) (xs.getD j dM):=
 ⟨rcell made9 dM h j hj 0 (by omega),rcell made9 dM h j hj 1 (by omega),rcell made9 dM h j hj 2 (by omega),rcell made9 dM h j hj 3 (by omega),rcell made9 dM h j hj 4 (by omega),rcell made9 dM h j hj 5 (by omega),rcell made9 dM h j hj 6 (by omega),rcell made9 dM h j hj 7 (by omega),rcell made9 dM h j hj 8 (by omega)⟩
structure MadeOk (N:NPr) (w:World) (a:MadeD):Prop where
 ins:RecAt inC w a.ai a.cs
 outs:RecAt kV w a.ap a.zs
 keys:RecAt kC w a.ak a.cs
 coins:RecAt CoinD.l w a.ac a.cs
 ln:a.cs.length=a.n
 lm:a.zs.length=a.m
 lq:a.cs.length=a.q
 lx:a.cs.length=a.x
 b1:a.cs.length<=10
 b2:a.zs.length<=8
 ni:a.cs≠[]->∀ p,(a.ai=some p\/a.ak=some p\/a.ac=some p)->N p.block
 no:a.zs≠[]->∀ p,a.ap=some p->N p.block
theorem MadeOk.grown {a:MadeD} (h:MadeOk N w a) (hb:Below w.heap.size w w'):MadeOk N w' a:=⟨h.ins.grown hb,h.outs.grown hb,h.keys.grown hb,h.coins.grown hb,h.ln,h.lm,h.lq,h.lx,h.b1,h.b2,h.ni,h.no⟩
def takenB (ms:List MadeD) (id pos:Int):Bool:=ms.any fun a=>a.cs.any fun x=>a.lv&&(x.id== id&&x.pos== pos)
def usedR (ms:List MadeD) (kb ki:Int):Bool:=ms.any fun a=>a.cs.any fun x=>a.sg&&(x.br== kb&&x.ix== ki)
theorem taken_any (N:NPr) (D:Nat) (ao:OAd) (n c:Nat) (ms:List MadeD) (x:CoinD) (w:World) (hp:w.cell? ⟨D,5,none⟩=some (.slice ao n c)) (hx:RecAt MadeD.v w ao ms) (hn:ms.length=n) (hm:n<=9007199254740992) (hok:∀ a∈ms,MadeOk N w a):
 Calls Tryz.prog 215 #[.pointer (some ⟨D,0,none⟩),coinV x] w fun e w'=>e=.returned (.bool (takenB ms x.id x.pos))/\Below w.heap.size w w':=by
 obtain⟨x0,x1,x2,x3,x4,x5⟩:=x
 simp only
 have HN:=hiD hn
 have HX:=hiD hx
 have HO:=hiD hok
 have hDl:D<w.heap.size:=cell_lt hp
 clear hn hx hok
 go_enter Tryz.func215,Tryz.ntmps215
 go_wp2
 go_loopw [5] (fun i wr=>∃ k:Nat,k<=n/\i=.int .i64 k/\Hid ((ms.take k).any (fun a=>a.cs.any fun x=>a.lv&&(x.id== x0&&x.pos== x1))=false)/\wr.cell? ⟨w.heap.size,0,none⟩=some (.int .i64 x0)/\wr.cell? ⟨w.heap.size,1,none⟩=some (.int .i64 x1)/\Below w.heap.size w wr) (fun i _=>n-(intOf i).toNat)
 case atStart=>exact⟨0,Nat.zero_le _,rfl,by show List.any _ _=false;simp,by go_simp,by go_simp,(Below.refl _ _).alloc leR _⟩
 case round=>
  obtain⟨k,hk,rfl,hany,b0,b1,hbl⟩:=hrel
  have p0:=(hbl.cell (p:=⟨D,5,none⟩) hDl).trans hp
  by_cases hlt:k<n
  ·rcases HX.out with hnil|⟨g,off,rfl,hrow⟩
   ·have:=HN.out;rw[hnil] at this;simp at this;omega
   have HM:Hid _:=madeCells hrow k (by rw[HN.out];exact hlt)
   have HS:Hid _:=any_no (fun a:MadeD=>a.cs.any fun x=>a.lv&&(x.id== x0&&x.pos== x1)) ms dM k (by rw[HN.out];exact hlt) hany.out
   have HZ:Hid _:=any_yes (fun a:MadeD=>a.cs.any fun x=>a.lv&&(x.id== x0&&x.pos== x1)) ms dM k (by rw[HN.out];exact hlt)
   have hk0:=HO.out (ms.getD k dM) (getD_mem ms dM k (by rw[HN.out];exact hlt))
   have HCO:=hiD hk0.coins
   have HCL:=hiD hk0.lx
   have hb10:(ms.getD k dM).x<=10:=by rw[<-hk0.lx];exact hk0.b1
   clear hrow hk0
   generalize ms.getD k dM=y at *
   obtain⟨ynum,ytag,yai,yn,yc,yap,ym,yd,yak,yq,ye,ych,yac,yx,yy,ylv,ysg,ycs,yzs⟩:=y
   simp only at HM HCO HCL hb10
   have hkI:(k:Int)<(n:Int):=by omega
   have hk0:(0:Int)<=(k:Int):=by omega
   have m6:=(hbl.cell (p:=⟨g,off+k*9+6,none⟩) (cell_lt HM.out.c6)).trans HM.out.c6
   have m7:=(hbl.cell (p:=⟨g,off+k*9+7,none⟩) (cell_lt HM.out.c7)).trans HM.out.c7
   obtain⟨wo,rfl⟩:∃ wo:World,wo=wr:=⟨_,rfl⟩
   go_wp2
   go_loopw [6] (fun i wr=>∃ j:Nat,j<=yx/\i=.int .i64 j/\Hid ((ycs.take j).any (fun x=>ylv&&(x.id== x0&&x.pos== x1))=false)/\Below wo.heap.size wo wr) (fun i _=>yx-(intOf i).toNat)
   case atStart=>exact⟨0,Nat.zero_le _,rfl,by show List.any _ _=false;simp,Below.refl _ _⟩
   case round=>
    obtain⟨j,hj,rfl,hany2,hbo⟩:=hrel
    have hszo:=hbo.size
    have hbw:Below w.heap.size w wr:=hbl.trans (hbo.mono hbl.size)
    have q0:=(hbo.cell (p:=⟨D,5,none⟩) (cell_lt p0)).trans p0
    have q6:=(hbo.cell (p:=⟨g,off+k*9+6,none⟩) (cell_lt m6)).trans m6
    have q7:=(hbo.cell (p:=⟨g,off+k*9+7,none⟩) (cell_lt m7)).trans m7
    have r0:=(hbo.cell (p:=⟨w.heap.size,0,none⟩) (cell_lt b0)).trans b0
    have r1:=(hbo.cell (p:=⟨w.heap.size,1,none⟩) (cell_lt b1)).trans b1
    by_cases hlt2:j<yx
    ·rcases HCO.out with hnil|⟨g2,off2,rfl,hrow⟩
     ·have:=HCL.out;rw[hnil] at this;simp at this;omega
     obtain⟨d0,d1,d2,d3,d4,d5⟩:=coinCells (hrow.grown hbw) j (by rw[HCL.out];exact hlt2)
     have HS2:Hid _:=any_no (fun x:CoinD=>ylv&&(x.id== x0&&x.pos== x1)) ycs dN j (by rw[HCL.out];exact hlt2) hany2.out
     have HZ2:Hid _:=any_yes (fun x:CoinD=>ylv&&(x.id== x0&&x.pos== x1)) ycs dN j (by rw[HCL.out];exact hlt2)
     have hjI:(j:Int)<(yx:Int):=by omega
     have hj0:(0:Int)<=(j:Int):=by omega
     clear hrow
     generalize ycs.getD j dN=z at d0 d1 d2 d3 d4 d5 HS2 HZ2
     obtain⟨z0,z1,z2,z3,z4,z5⟩:=z
     simp only at d0 d1 d2 d3 d4 d5
     have bX:Below wr.heap.size wr (wr.alloc (.cells #[.int .i64 z0,.int .i64 z1,.int .i64 z2,.int .i64 z3,.int .i64 z4,.int .i64 z5] 107)):=(Below.refl _ _).alloc leR _
     have s0:=(bX.cell (p:=⟨D,5,none⟩) (cell_lt q0)).trans q0
     have s7:=(bX.cell (p:=⟨g,off+k*9+7,none⟩) (cell_lt q7)).trans q7
     have t0:=(bX.cell (p:=⟨w.heap.size,0,none⟩) (cell_lt r0)).trans r0
     have t1:=(bX.cell (p:=⟨w.heap.size,1,none⟩) (cell_lt r1)).trans r1
     obtain⟨v0,v1,_,_,_,_⟩:=xrow (vrow_new wr [.int .i64 z0,.int .i64 z1,.int .i64 z2,.int .i64 z3,.int .i64 z4,.int .i64 z5] 107)
     have hb9:Below wo.heap.size wo (wr.alloc (.cells #[.int .i64 z0,.int .i64 z1,.int .i64 z2,.int .i64 z3,.int .i64 z4,.int .i64 z5] 107)):=hbo.alloc hszo _
     have HBF:Hid (Below w.heap.size w (wr.alloc (.cells #[.int .i64 z0,.int .i64 z1,.int .i64 z2,.int .i64 z3,.int .i64 z4,.int .i64 z5] 107))):=hbl.trans (hb9.mono hbl.size)
     go_upto_region 8 with fail
     clear d0 d1 d2 d3 d4 d5 q0 q6 q7 r0 r1 bX
     generalize wr.alloc (.cells #[.int .i64 z0,.int .i64 z1,.int .i64 z2,.int .i64 z3,.int .i64 z4,.int .i64 z5] 107)=w9 at *
     generalize wr.heap.size=X at *
     cases hlv:ylv
     ·go_wp2
      go_roundw
      case rel=>exact⟨j+1,by omega,by go_num,HS2 (by rw[hlv];rfl),hb9⟩
      case measure=>simp[intOf];omega
     ·cases h1:(z0== x0)
      ·go_wp2
       go_roundw
       case rel=>exact⟨j+1,by omega,by go_num,HS2 (by simp[h1]),hb9⟩
       case measure=>simp[intOf];omega
      ·cases h2:(z1== x1)
       ·go_wp2
        go_roundw
        case rel=>exact⟨j+1,by omega,by go_num,HS2 (by simp[h2]),hb9⟩
        case measure=>simp[intOf];omega
       ·go_wp2
        go_ret
        exact⟨ret_bool (HZ (HZ2 (by show(ylv&&(z0== x0&&z1== x1))=true;rw[hlv,h1,h2];rfl))).symm,HBF⟩
    ·have HE:Hid _:=any_done (fun x:CoinD=>ylv&&(x.id== x0&&x.pos== x1)) ycs yx HCL.out j (by omega) hany2.out
     go_wp2
     go_roundw
     case rel=>exact⟨k+1,by omega,by go_num,HS HE.out.symm,r0,r1,hbw⟩
     case measure=>simp[intOf];omega
  ·go_wp2
   go_ret
   exact⟨ret_bool (any_done _ ms n HN k (by omega) hany.out),hbl⟩
theorem kcCells (h:VRow w b off (xs.flatMap kC)) (j:Nat) (hj:j<xs.length):w.cell? ⟨b,off+j*2,none⟩=some (.int .i64 (xs.getD j dN).br)/\w.cell? ⟨b,off+j*2+1,none⟩=some (.int .i64 (xs.getD j dN).ix):=
 ⟨rcell kC2 dN h j hj 0 (by omega),rcell kC2 dN h j hj 1 (by omega)⟩
theorem used_any (N:NPr) (D:Nat) (ao:OAd) (n c:Nat) (ms:List MadeD) (kb ki:Int) (w:World) (hp:w.cell? ⟨D,5,none⟩=some (.slice ao n c)) (hx:RecAt MadeD.v w ao ms) (hn:ms.length=n) (hm:n<=9007199254740992) (hok:∀ a∈ms,MadeOk N w a):
 Calls Tryz.prog 175 #[.pointer (some ⟨D,0,none⟩),.agg #[.int .i64 kb,.int .i64 ki]] w fun e w'=>e=.returned (.bool (usedR ms kb ki))/\Below w.heap.size w w':=by
 have HN:=hiD hn
 have HX:=hiD hx
 have HO:=hiD hok
 have hDl:D<w.heap.size:=cell_lt hp
 clear hn hx hok
 go_enter Tryz.func175,Tryz.ntmps175
 go_wp2
 go_loopw [5] (fun i wr=>∃ k:Nat,k<=n/\i=.int .i64 k/\Hid ((ms.take k).any (fun a=>a.cs.any fun x=>a.sg&&(x.br== kb&&x.ix== ki))=false)/\wr.cell? ⟨w.heap.size,0,none⟩=some (.int .i64 kb)/\wr.cell? ⟨w.heap.size,1,none⟩=some (.int .i64 ki)/\Below w.heap.size w wr) (fun i _=>n-(intOf i).toNat)
 case atStart=>exact⟨0,Nat.zero_le _,rfl,by show List.any _ _=false;simp,by go_simp,by go_simp,(Below.refl _ _).alloc leR _⟩
 case round=>
  obtain⟨k,hk,rfl,hany,b0,b1,hbl⟩:=hrel
  have p0:=(hbl.cell (p:=⟨D,5,none⟩) hDl).trans hp
  by_cases hlt:k<n
  ·rcases HX.out with hnil|⟨g,off,rfl,hrow⟩
   ·have:=HN.out;rw[hnil] at this;simp at this;omega
   have HM:Hid _:=madeCells hrow k (by rw[HN.out];exact hlt)
   have HS:Hid _:=any_no (fun a:MadeD=>a.cs.any fun x=>a.sg&&(x.br== kb&&x.ix== ki)) ms dM k (by rw[HN.out];exact hlt) hany.out
   have HZ:Hid _:=any_yes (fun a:MadeD=>a.cs.any fun x=>a.sg&&(x.br== kb&&x.ix== ki)) ms dM k (by rw[HN.out];exact hlt)
   have hk0:=HO.out (ms.getD k dM) (getD_mem ms dM k (by rw[HN.out];exact hlt))
   have HCO:=hiD hk0.keys
   have HCL:=hiD hk0.lq
   have hb10:(ms.getD k dM).q<=10:=by rw[<-hk0.lq];exact hk0.b1
   clear hrow hk0
   generalize ms.getD k dM=y at *
   obtain⟨ynum,ytag,yai,yn,yc,yap,ym,yd,yak,yq,ye,ych,yac,yx,yy,ylv,ysg,ycs,yzs⟩:=y
   simp only at HM HCO HCL hb10
   have hkI:(k:Int)<(n:Int):=by omega
   have hk0:(0:Int)<=(k:Int):=by omega
   have m6:=(hbl.cell (p:=⟨g,off+k*9+4,none⟩) (cell_lt HM.out.c4)).trans HM.out.c4
   have m7:=(hbl.cell (p:=⟨g,off+k*9+8,none⟩) (cell_lt HM.out.c8)).trans HM.out.c8
   obtain⟨wo,rfl⟩:∃ wo:World,wo=wr:=⟨_,rfl⟩
   go_wp2
   go_loopw [6] (fun i wr=>∃ j:Nat,j<=yq/\i=.int .i64 j/\Hid ((ycs.take j).any (fun x=>ysg&&(x.br== kb&&x.ix== ki))=false)/\Below wo.heap.size wo wr) (fun i _=>yq-(intOf i).toNat)
   case atStart=>exact⟨0,Nat.zero_le _,rfl,by show List.any _ _=false;simp,Below.refl _ _⟩
   case round=>
    obtain⟨j,hj,rfl,hany2,hbo⟩:=hrel
    have hszo:=hbo.size
    have hbw:Below w.heap.size w wr:=hbl.trans (hbo.mono hbl.size)
    have q0:=(hbo.cell (p:=⟨D,5,none⟩) (cell_lt p0)).trans p0
    have q6:=(hbo.cell (p:=⟨g,off+k*9+4,none⟩) (cell_lt m6)).trans m6
    have q7:=(hbo.cell (p:=⟨g,off+k*9+8,none⟩) (cell_lt m7)).trans m7
    have r0:=(hbo.cell (p:=⟨w.heap.size,0,none⟩) (cell_lt b0)).trans b0
    have r1:=(hbo.cell (p:=⟨w.heap.size,1,none⟩) (cell_lt b1)).trans b1
    by_cases hlt2:j<yq
    ·rcases HCO.out with hnil|⟨g2,off2,rfl,hrow⟩
     ·have:=HCL.out;rw[hnil] at this;simp at this;omega
     obtain⟨d0,d1⟩:=kcCells (hrow.grown hbw) j (by rw[HCL.out];exact hlt2)
     have HS2:Hid _:=any_no (fun x:CoinD=>ysg&&(x.br== kb&&x.ix== ki)) ycs dN j (by rw[HCL.out];exact hlt2) hany2.out
     have HZ2:Hid _:=any_yes (fun x:CoinD=>ysg&&(x.br== kb&&x.ix== ki)) ycs dN j (by rw[HCL.out];exact hlt2)
     have hjI:(j:Int)<(yq:Int):=by omega
     have hj0:(0:Int)<=(j:Int):=by omega
     clear hrow
     generalize ycs.getD j dN=z at d0 d1 HS2 HZ2
     obtain⟨z0,z1,z2,z3,z4,z5⟩:=z
     simp only at d0 d1
     have bX:Below wr.heap.size wr (wr.alloc (.cells #[.int .i64 z4,.int .i64 z5] 117)):=(Below.refl _ _).alloc leR _
     have s0:=(bX.cell (p:=⟨D,5,none⟩) (cell_lt q0)).trans q0
     have s7:=(bX.cell (p:=⟨g,off+k*9+8,none⟩) (cell_lt q7)).trans q7
     have t0:=(bX.cell (p:=⟨w.heap.size,0,none⟩) (cell_lt r0)).trans r0
     have t1:=(bX.cell (p:=⟨w.heap.size,1,none⟩) (cell_lt r1)).trans r1
     have v0:(wr.alloc (.cells #[.int .i64 z4,.int .i64 z5] 117)).cell? ⟨wr.heap.size,0,none⟩=some (.int .i64 z4):=by go_simp
     have v1:(wr.alloc (.cells #[.int .i64 z4,.int .i64 z5] 117)).cell? ⟨wr.heap.size,1,none⟩=some (.int .i64 z5):=by go_simp
     have hb9:Below wo.heap.size wo (wr.alloc (.cells #[.int .i64 z4,.int .i64 z5] 117)):=hbo.alloc hszo _
     have HBF:Hid (Below w.heap.size w (wr.alloc (.cells #[.int .i64 z4,.int .i64 z5] 117))):=hbl.trans (hb9.mono hbl.size)
     go_upto_region 8 with fail
     clear d0 d1 q0 q6 q7 r0 r1 bX
     generalize wr.alloc (.cells #[.int .i64 z4,.int .i64 z5] 117)=w9 at *
     generalize wr.heap.size=X at *
     cases hlv:ysg
     ·go_wp2
      go_roundw
      case rel=>exact⟨j+1,by omega,by go_num,HS2 (by rw[hlv];rfl),hb9⟩
      case measure=>simp[intOf];omega
     ·cases h1:(z4== kb)
      ·go_wp2
       go_roundw
       case rel=>exact⟨j+1,by omega,by go_num,HS2 (by simp[h1]),hb9⟩
       case measure=>simp[intOf];omega
      ·cases h2:(z5== ki)
       ·go_wp2
        go_roundw
        case rel=>exact⟨j+1,by omega,by go_num,HS2 (by simp[h2]),hb9⟩
        case measure=>simp[intOf];omega
       ·go_wp2
        go_ret
        exact⟨ret_bool (HZ (HZ2 (by show(ysg&&(z4== kb&&z5== ki))=true;rw[hlv,h1,h2];rfl))).symm,HBF⟩
    ·have HE:Hid _:=any_done (fun x:CoinD=>ysg&&(x.br== kb&&x.ix== ki)) ycs yq HCL.out j (by omega) hany2.out
     go_wp2
     go_roundw
     case rel=>exact⟨k+1,by omega,by go_num,HS HE.out.symm,r0,r1,hbw⟩
     case measure=>simp[intOf];omega
  ·go_wp2
   go_ret
   exact⟨ret_bool (any_done _ ms n HN k (by omega) hany.out),hbl⟩
theorem dFree_any (N:NPr) (D:Nat) (ao:OAd) (n c:Nat) (ms:List MadeD) (x:CoinD) (w:World) (hp:w.cell? ⟨D,5,none⟩=some (.slice ao n c)) (hx:RecAt MadeD.v w ao ms) (hn:ms.length=n) (hm:n<=9007199254740992) (hok:∀ a∈ms,MadeOk N w a):
 Calls Tryz.prog 183 #[.pointer (some ⟨D,0,none⟩),coinV x] w fun e w'=>e=.returned (.bool (!takenB ms x.id x.pos&&!usedR ms x.br x.ix))/\Below w.heap.size w w':=by
 obtain⟨x0,x1,x2,x3,x4,x5⟩:=x
 simp only
 have HP:=hiD hp
 have HN:=hiD hn
 have HX:=hiD hx
 have HO:=hiD hok
 have hDl:D<w.heap.size:=cell_lt hp
 clear hn hx hok hp
 have bA:Below w.heap.size w (w.alloc (.cells #[.int .i64 x0,.int .i64 x1,.int .i64 x2,.int .i64 x3,.int .i64 x4,.int .i64 x5] 107)):=(Below.refl _ _).alloc leR _
 have HV:Hid (VRow (w.alloc (.cells #[.int .i64 x0,.int .i64 x1,.int .i64 x2,.int .i64 x3,.int .i64 x4,.int .i64 x5] 107)) w.heap.size 0 (CoinD.l ⟨x0,x1,x2,x3,x4,x5⟩)):=vrow_new w _ _
 go_enter Tryz.func183,Tryz.ntmps183
 go_upto_region 1 with fail
 generalize w.alloc (.cells #[.int .i64 x0,.int .i64 x1,.int .i64 x2,.int .i64 x3,.int .i64 x4,.int .i64 x5] 107)=w0 at *
 obtain⟨v0,v1,v2,v3,v4,v5⟩:=xrow HV.out
 go_wp2_with fail
 refine(taken_any N D ao n c ms ⟨x0,x1,x2,x3,x4,x5⟩ _ ((bA.cell (p:=⟨D,5,none⟩) hDl).trans HP) (HX.out.grown bA) HN hm (fun a ha=>(HO a ha).grown bA)).mono ?_
 rintro e w1 ⟨rfl,hb1⟩
 simp only
 have b1:Below w.heap.size w w1:=below_blk bA hb1
 obtain⟨u0,u1,u2,u3,u4,u5⟩:=xrow (VRow.grown HV.out hb1)
 have HP1:Hid (w1.cell? ⟨D,5,none⟩=some (.slice ao n c)):=(b1.cell (p:=⟨D,5,none⟩) hDl).trans HP.out
 clear v0 v1 v2 v3 v4 v5 HV hb1 bA
 go_wp2_with fail
 refine(used_any N D ao n c ms x4 x5 _ HP1 (HX.out.grown b1) HN hm (fun a ha=>(HO a ha).grown b1)).mono ?_
 rintro e w2 ⟨rfl,hb2⟩
 have b2:Below w.heap.size w w2:=below_blk b1 hb2
 generalize htk:takenB ms x0 x1=tk at *
 generalize hus:usedR ms x4 x5=us at *
 have HTK:=hiD htk
 have HUS:=hiD hus
 clear htk hus
 cases tk
 ·cases us
  ·go_wp2
   go_ret
   exact⟨ret_bool (by rw[HTK.out,HUS.out];rfl),b2⟩
  ·go_wp2
   go_ret
   exact⟨ret_bool (by rw[HTK.out,HUS.out];rfl),b2⟩
 ·go_wp2
  go_ret
  exact⟨ret_bool (by rw[HTK.out,HUS.out];rfl),b2⟩
theorem dWorth_any (x:CoinD) (r:Int) (w:World) (hr:0<=r/\r<=1000) (hx:0<=x.val/\x.val<=1099511627776):
 Calls Tryz.prog 205 #[coinV x,.int .i64 r] w fun e w'=>e=.returned (.int .i64 (worthZ r x))/\Below w.heap.size w w':=by
 obtain⟨x0,x1,x2,x3,x4,x5⟩:=x
 simp only at hx
 have hw1:IntKind.i64.wrap (7*r)=7*r:=IntWalk.i64_in _ ⟨by omega,by omega⟩
 have hw2:IntKind.i64.wrap (x3-7*r)=x3-7*r:=IntWalk.i64_in _ ⟨by omega,by omega⟩
 go_enter Tryz.func205,Tryz.ntmps205
 go_wp2
 go_ret
 exact⟨rfl,(Below.refl _ _).alloc leR _⟩
theorem dHas_any (m n i:Nat) (w:World) (hn:n<=8) (hi:i<n):
 Calls Tryz.prog 207 #[.int .i64 (m:Int),.int .i64 (n:Int),.int .i64 (i:Int)] w fun e w'=>e=.returned (.bool (bitN m n i))/\w=w':=by
 obtain⟨t,ht⟩:∃ t:Nat,t=n-1-i:=⟨_,rfl⟩
 have e1:(n:Int)-1-(i:Int)=(t:Int):=by omega
 have hw1:IntKind.i64.wrap ((n:Int)-1)=(n:Int)-1:=IntWalk.i64_in _ ⟨by omega,by omega⟩
 have hw2:IntKind.i64.wrap ((n:Int)-1-(i:Int))=(t:Int):=by rw[e1];exact IntWalk.i64_in _ ⟨by omega,by omega⟩
 have HT:=hiD ht
 have ht8:t<8:=by omega
 clear ht e1
 go_enter Tryz.func207,Tryz.ntmps207
 go_wp2
 go_ret
 refine⟨ret_bool ?_,rfl⟩
 have e:(m:Int) / 2 ^ t % 2=((m / 2 ^ t % 2:Nat):Int):=by push_cast;rfl
 rw[i64_and1,e]
 unfold bitN
 rw[<-HT.out]
 generalize m / 2 ^ t % 2=z
 by_cases hz:z=1
 ·subst hz;rfl
 ·have h1:((z:Int)== 1)=false:=by rw[beq_eq_false_iff_ne];omega
  have h2:(z== 1)=false:=by rw[beq_eq_false_iff_ne];exact hz
  rw[h1,h2]
theorem sumOf_any (ao:OAd) (q c:Nat) (cs:List CoinD) (r:Int) (m n:Nat) (w:World) (hx:RecAt CoinD.l w ao cs) (hq:cs.length=q) (hn:n<=8) (hnq:n<=q) (hr:0<=r/\r<=1000) (hv:CVals cs):
 Calls Tryz.prog 219 #[.slice ao q c,.int .i64 r,.int .i64 (m:Int),.int .i64 (n:Int)] w fun e w'=>(∃ T,e=.returned (.int .i64 T)/\T=sumD r cs n m/\-56000<=T/\T<=8796093022208)/\Below w.heap.size w w':=by
 have HX:=hiD hx
 have HQ:=hiD hq
 have HV:=hiD hv
 clear hx hq hv
 go_enter Tryz.func219,Tryz.ntmps219
 go_wp2
 go_loopw [9,10] (fun v i wr=>∃ (k:Nat) (T:Int),k<=n/\i=.int .i64 k/\v=.int .i64 T/\Hid (((List.range k).map fun i=>if bitN m n i then worthZ r (cs.getD i dN) else 0).sum=T)/\-(7000*(k:Int))<=T/\T<=1099511627776*(k:Int)/\Below w.heap.size w wr) (fun _ i _=>n-(intOf i).toNat)
 case atStart=>exact⟨0,0,Nat.zero_le _,rfl,rfl,rfl,by simp,by simp,Below.refl _ _⟩
 case round=>
  obtain⟨k,T,hk,rfl,rfl,hT,hT1,hT2,hbl⟩:=hrel
  have hsz:=hbl.size
  by_cases hlt:k<n
  ·have HS:Hid _:=rangeM_snoc (fun i=>if bitN m n i then worthZ r (cs.getD i dN) else 0) k
   cases hb:bitN m n k
   ·go_wp2_with (go_at_call 207;refine(dHas_any m n k _ hn hlt).mono ?_;rintro e w' ⟨rfl,rfl⟩;rw[hb])
    go_roundw
    case rel=>exact⟨k+1,T,by omega,by go_num,rfl,by show _=_;rw[HS.out,List.sum_append,hT.out,hb];simp,by push_cast;omega,by push_cast;omega,hbl⟩
    case measure=>simp[intOf];omega
   ·have hkl:k<cs.length:=by rw[HQ.out];omega
    have hvk:=HV.out (cs.getD k dN) (getD_mem cs dN k hkl)
    rcases HX.out.grown hbl with hnil|⟨gc,oc,rfl,hrow⟩
    ·rw[hnil] at hkl;simp at hkl
    obtain⟨e0,e1,e2,e3,e4,e5⟩:=coinCells hrow k hkl
    have hkI:(k:Int)<(q:Int):=by omega
    have hk0:(0:Int)<=(k:Int):=by omega
    clear hrow
    generalize cs.getD k dN=y at *
    obtain⟨y0,y1,y2,y3,y4,y5⟩:=y
    simp only at e0 e1 e2 e3 e4 e5 hvk
    have HWD:Hid (worthZ r ⟨y0,y1,y2,y3,y4,y5⟩=y3-7*r):=rfl
    have hw:IntKind.i64.wrap (T+(y3-7*r))=T+(y3-7*r):=IntWalk.i64_in _ ⟨by omega,by omega⟩
    go_wp2_with (first|(go_at_call 207;refine(dHas_any m n k _ hn hlt).mono ?_;rintro e w' ⟨rfl,rfl⟩;rw[hb])|(go_at_call 205;refine(dWorth_any ⟨y0,y1,y2,y3,y4,y5⟩ r _ hr hvk).mono ?_;rintro e w7 ⟨rfl,hb7⟩;rw[HWD.out]))
    go_roundw
    case rel=>exact⟨k+1,T+(y3-7*r),by omega,by go_num,rfl,by show _=_;rw[HS.out,List.sum_append,hT.out,if_pos hb,HWD.out];simp,by push_cast;omega,by push_cast;omega,hbl.trans (hb7.mono hsz)⟩
    case measure=>simp[intOf];omega
  ·have hkn:k=n:=by omega
   subst hkn
   go_wp2
   go_ret
   exact⟨⟨T,rfl,hT.out.symm,by omega,by omega⟩,hbl⟩
theorem fitting_any (ao:OAd) (q c:Nat) (cs:List CoinD) (r:Int) (n:Nat) (lo hi:Int) (w:World) (hx:RecAt CoinD.l w ao cs) (hq:cs.length=q) (hn:n<=8) (hnq:n<=q) (hr:0<=r/\r<=1000) (hv:CVals cs):
 Calls Tryz.prog 206 #[.slice ao q c,.int .i64 r,.int .i64 (n:Int),.int .i64 lo,.int .i64 hi] w fun e w'=>e=.returned (.int .i64 (bestD r cs n lo hi:Nat))/\bestD r cs n lo hi<=255/\Below w.heap.size w w':=by
 have HX:Hid (RecAt CoinD.l w ao cs):=hx
 have HQ:Hid (cs.length=q):=hq
 have HV:Hid (CVals cs):=hv
 clear hx hq hv
 obtain⟨M,hM⟩:∃ M:Nat,M=2 ^ n-1:=⟨_,rfl⟩
 have hp:2 ^ n<=256:=by have:=Nat.pow_le_pow_right (n:=2) (by omega) hn;simpa using this
 have hp0:0<2 ^ n:=Nat.two_pow_pos _
 have hM1:((2:Int) ^ n)=(M:Int)+1:=by
  have:((2 ^ n:Nat):Int)=(M:Int)+1:=by omega
  rw[<-this];push_cast;rfl
 have hM255:M<=255:=by omega
 have HM:Hid (2 ^ n-1=M):=hM.symm
 have hw1:IntKind.i64.wrap ((2:Int) ^ n)=(M:Int)+1:=by rw[hM1];exact IntWalk.i64_in _ ⟨by omega,by omega⟩
 have hw2:IntKind.i64.wrap ((M:Int)+1-1)=(M:Int):=by rw[show(M:Int)+1-1=(M:Int) by omega];exact IntWalk.i64_in _ ⟨by omega,by omega⟩
 clear hM hp hp0
 go_enter Tryz.func206,Tryz.ntmps206
 go_wp2
 have HB:Hid (bestD r cs n lo hi=(fitZD (sumD r cs n) lo hi M (0,0)).1):=by show _=_;unfold bestD;rw[HM.out]
 clear hM1 hw1 hw2
 go_loopw [11,12,13] (fun bv sv i wr=>∃ (k b:Nat) (t:Int),k<=M/\b<=M/\i=.int .i64 k/\bv=.int .i64 b/\sv=.int .i64 t/\Hid ((fitZD (sumD r cs n) lo hi k (b,t)).1=bestD r cs n lo hi)/\Below w.heap.size w wr) (fun _ _ i _=>(intOf i).toNat)
 case atStart=>exact⟨M,0,0,leR,Nat.zero_le _,rfl,rfl,rfl,HB.out.symm,Below.refl _ _⟩
 case round=>
  obtain⟨k,b,t,hk,hb,rfl,rfl,rfl,hz,hbl⟩:=hrel
  have hsz:=hbl.size
  cases k with
  |zero=>
   have HZ:Hid (b=bestD r cs n lo hi):=hz.out
   go_wp2
   go_ret
   rw[<-HZ.out]
   exact⟨rfl,by omega,hbl⟩
  |succ k=>
   have hz':=hz.out
   rw[fitZD] at hz'
   have HZ:Hid ((fitZD (sumD r cs n) lo hi k (if lo<=sumD r cs n (k+1)/\sumD r cs n (k+1)<=hi/\(b=0\/sumD r cs n (k+1)<t) then(k+1,sumD r cs n (k+1)) else(b,t))).1=bestD r cs n lo hi):=hz'
   clear hz' hz
   generalize hK:k+1=K at *
   have hK0:0<K:=by omega
   have hkK:k<K:=by omega
   have hkM:k<=M:=by omega
   have hd0:decide ((0:Int)<(K:Int))=true:=by rw[decide_eq_true_iff];omega
   have hKm:((K:Int)-1)=(k:Int):=by omega
   have hw1:IntKind.i64.wrap ((K:Int)-1)=(k:Int):=by rw[hKm];exact IntWalk.i64_in _ ⟨by omega,by omega⟩
   clear hKm hK
   go_wp2_with fail
   refine(sumOf_any ao q c cs r K n _ (HX.out.grown hbl) HQ.out hn hnq hr HV.out).mono ?_
   rintro e w5 ⟨⟨T,rfl,hT,t1,t2⟩,hb5⟩
   rw[<-hT] at HZ
   clear hT
   have hb05:Below w.heap.size w w5:=hbl.trans (hb5.mono hsz)
   by_cases h1:lo<=T
   ·by_cases h2:T<=hi
    ·by_cases h3:b=0
     ·subst h3
      rw[if_pos ⟨h1,h2,Or.inl rfl⟩] at HZ
      go_wp2
      go_roundw
      case rel=>exact⟨k,K,T,by omega,hk,rfl,rfl,rfl,HZ.out,hb05⟩
      case measure=>simp[intOf];omega
     ·have hb0:((b:Int)== 0)=false:=by rw[beq_eq_false_iff_ne];omega
      by_cases h4:T<t
      ·rw[if_pos ⟨h1,h2,Or.inr h4⟩] at HZ
       go_wp2
       go_roundw
       case rel=>exact⟨k,K,T,by omega,hk,rfl,rfl,rfl,HZ.out,hb05⟩
       case measure=>simp[intOf];omega
      ·rw[if_neg (fun h=>h.2.2.elim h3 h4)] at HZ
       go_wp2
       go_roundw
       case rel=>exact⟨k,b,t,by omega,hb,rfl,rfl,rfl,HZ.out,hb05⟩
       case measure=>simp[intOf];omega
    ·rw[if_neg (fun h=>h2 h.2.1)] at HZ
     go_wp2
     go_roundw
     case rel=>exact⟨k,b,t,by omega,hb,rfl,rfl,rfl,HZ.out,hb05⟩
     case measure=>simp[intOf];omega
   ·rw[if_neg (fun h=>h1 h.1)] at HZ
    go_wp2
    go_roundw
    case rel=>exact⟨k,b,t,by omega,hb,rfl,rfl,rfl,HZ.out,hb05⟩
    case measure=>simp[intOf];omega
end
end Go.Proofs.YtffgpepngcnjeabGreat
