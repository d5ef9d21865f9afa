import Derived.Test.YtffgpepngcnjeabGreatSbd
namespace Go.Proofs.YtffgpepngcnjeabGreat
set_option maxRecDepth 100000
set_option maxHeartbeats 8000000
section
open Go.RowKit
variable {E N:NPr} {w w' W wr ws w2 Wm:World} {X D XB i j base g cap B e size n:Nat} {m:MadeD} {ao:OAd} {c a b vi vo vo0 v:Value} {bls:List (List TxD)} {row row':Option Nat} {Q:Nat->InD->Prop} {xs:List InD} {t:Int} {y:InD} {ys:LII} {P:Int×Int->Prop} {cs:List Value}
def hasR (l:List RCel) (x:CoinD):Bool:=if rfindZ l x.id x.pos<0 then false else((l.getD (rfindZ l x.id x.pos).toNat dR).ad== x.tt&&(l.getD (rfindZ l x.id x.pos).toNat dR).val== x.val)
def goneR (bls:List (List TxD)) (tag:Int) (cs:List CoinD) (zs:LII):Bool:=standsZ bls (idZ tag (cs.map CoinD.inD) zs) || cs.any fun x=>!hasR (cellsR bls) x
theorem rfind_cases (xs:List RCel) (id pos:Int):rfindZ xs id pos=-1\/∃ j,j<xs.length/\rfindZ xs id pos=(j:Int):=by
 rcases idxOf_cases (isRC id pos) dR xs 0 with h|⟨j,h1,h2,_⟩
 ·exact Or.inl h
 ·exact Or.inr ⟨j,h1,by unfold rfindZ;rw[h2];simp⟩
structure V9 (w:World) (X:Nat) (m:MadeD):Prop where
 c0:w.cell? ⟨X,0,none⟩=some (.int .i64 m.num)
 c1:w.cell? ⟨X,1,none⟩=some (.int .i64 m.tag)
 c2:w.cell? ⟨X,2,none⟩=some (.slice m.ai m.n m.c)
 c3:w.cell? ⟨X,3,none⟩=some (.slice m.ap m.m m.d)
 c4:w.cell? ⟨X,4,none⟩=some (.slice m.ak m.q m.e)
 c5:w.cell? ⟨X,5,none⟩=some (.int .i64 m.ch)
 c6:w.cell? ⟨X,6,none⟩=some (.slice m.ac m.x m.y)
 c7:w.cell? ⟨X,7,none⟩=some (.bool m.lv)
 c8:w.cell? ⟨X,8,none⟩=some (.bool m.sg)
theorem V9.fr (h:V9 w X m) (hf:Fr E w w') (he:¬E X):V9 w' X m:=
 ⟨hf.cell h.c0 he,hf.cell h.c1 he,hf.cell h.c2 he,hf.cell h.c3 he,hf.cell h.c4 he,hf.cell h.c5 he,hf.cell h.c6 he,hf.cell h.c7 he,hf.cell h.c8 he⟩
theorem V9.grown (h:V9 w X m) (hb:Below w.heap.size w w'):V9 w' X m:=h.fr (Fr.of_below hb (fun _=>False)) (fun h=>h)
theorem V9.new (w:World) (m:MadeD):V9 (w.alloc (.cells #[.int .i64 m.num,.int .i64 m.tag,.slice m.ai m.n m.c,.slice m.ap m.m m.d,.slice m.ak m.q m.e,.int .i64 m.ch,.slice m.ac m.x m.y,.bool m.lv,.bool m.sg] 187)) w.heap.size m:=by
 refine⟨?_,?_,?_,?_,?_,?_,?_,?_,?_⟩
 all_goals
  rw[World.cell?_alloc_new]
  rfl
theorem DCh.grown {c:Nat} (h:DCh N w D ao c bls) (hb:Below w.heap.size w w'):DCh N w' D ao c bls:=
 h.fr (Fr.of_below hb (fun _=>False)) (fun _ _ h=>h) (fun _ _ h=>h) (fun h=>h)
theorem gone_any (N Nd:NPr) (D:Nat) (ao:OAd) (c:Nat) (bls:List (List TxD)) (m:MadeD) (w:World) (hd:DCh N w D ao c bls) (hg:Good bls) (h40:bls.length<=40) (hm:MadeOk Nd w m):
 Calls Tryz.prog 174 #[.pointer (some ⟨D,0,none⟩),.agg #[.int .i64 m.num,.int .i64 m.tag,.slice m.ai m.n m.c,.slice m.ap m.m m.d,.slice m.ak m.q m.e,.int .i64 m.ch,.slice m.ac m.x m.y,.bool m.lv,.bool m.sg]] w fun e w'=>e=.returned (.bool (goneR bls m.tag m.cs m.zs))/\Below w.heap.size w w':=by
 have bA:Below w.heap.size w (w.alloc (.cells #[.int .i64 m.num,.int .i64 m.tag,.slice m.ai m.n m.c,.slice m.ap m.m m.d,.slice m.ak m.q m.e,.int .i64 m.ch,.slice m.ac m.x m.y,.bool m.lv,.bool m.sg] 187)):=(Below.refl _ _).alloc leR _
 have HV0:Hid (V9 (w.alloc (.cells #[.int .i64 m.num,.int .i64 m.tag,.slice m.ai m.n m.c,.slice m.ap m.m m.d,.slice m.ak m.q m.e,.int .i64 m.ch,.slice m.ac m.x m.y,.bool m.lv,.bool m.sg] 187)) w.heap.size m):=V9.new w m
 have HM0:=hiD (hm.grown bA)
 have HD0:=hiD (hd.grown bA)
 have HB0:=hiD bA
 have HGD:=hiD hg
 have hll:=cellsR_len hg
 clear hd hg hm bA
 go_enter Tryz.func174,Tryz.ntmps174
 go_upto_region 1 with fail
 generalize w.alloc (.cells #[.int .i64 m.num,.int .i64 m.tag,.slice m.ai m.n m.c,.slice m.ap m.m m.d,.slice m.ak m.q m.e,.int .i64 m.ch,.slice m.ac m.x m.y,.bool m.lv,.bool m.sg] 187)=w0 at *
 generalize hXe:w.heap.size=X at *
 have HXE:=hiD hXe
 clear hXe
 have hXl:X<w0.heap.size:=cell_lt HV0.out.c0
 obtain⟨dnum,dtag,dai,dn,dc,dap,dm,dd,dak,dq,de,dch,dac,dx,dy,dlv,dsg,dcs,dzs⟩:=m
 simp only
 have HGE:Hid (goneR bls dtag dcs dzs=(standsZ bls (idZ dtag (dcs.map CoinD.inD) dzs) || dcs.any fun x=>!hasR (cellsR bls) x)):=rfl
 obtain⟨gz,hgz⟩:∃ gz,goneR bls dtag dcs dzs=gz:=⟨_,rfl⟩
 have HGZ:=hiD hgz
 rw[hgz] at HGE
 clear hgz
 have HLN:Hid (dcs.length=dn/\dzs.length=dm/\dcs.length=dx/\dcs.length<=10):=⟨HM0.out.ln,HM0.out.lm,HM0.out.lx,HM0.out.b1⟩
 have HIA:Hid (InsAt w0 dai (dcs.map CoinD.inD)):=inC_insQ HM0.out.ins
 have HOA:Hid (OutsAt w0 dap dzs):=rec_outs HM0.out.outs
 obtain⟨_,v1,v2,v3,_⟩:=HV0.out
 simp only at v1 v2 v3
 go_wp2_with fail
 refine(rId_any dtag dai dn dc dap dm dd (dcs.map CoinD.inD) dzs _ HIA (by rw[List.length_map];exact HLN.out.1) HOA HLN.out.2.1).mono ?_
 rintro e w1 ⟨rfl,hb1⟩
 have HB1:=hiD hb1
 have HD1:=hiD (HD0.out.grown hb1)
 clear v1 v2 v3 hb1 HIA HOA
 generalize idZ dtag (dcs.map CoinD.inD) dzs=id at *
 obtain⟨csx,hcx⟩:=HD1.out.ch
 have HCX:=hiD hcx
 clear hcx
 have d4:=HD1.out.c4
 go_wp2_with fail
 refine(stands_any N ao bls.length c csx bls id _ HCX rfl (by omega) (fun i hi=>(HGD.out.small i hi).1)).mono ?_
 rintro e w2 ⟨rfl,hb2⟩
 have HB2:Hid (Below w0.heap.size w0 w2):=below_blk HB1.out hb2
 have HD2:=hiD (HD1.out.grown hb2)
 clear d4 hb2 HD1 HCX
 cases hst:standsZ bls id
 ·rw[hst,Bool.false_or] at HGE
  obtain⟨csy,hcy⟩:=HD2.out.ch
  have HCY:=hiD hcy
  clear hcy
  have d4:=HD2.out.c4
  go_wp2_with fail
  refine(cells_any N ao bls.length c csy bls _ HCY rfl (by omega) (fun i hi=>HGD.out.small i hi)).mono ?_
  rintro e w3 ⟨vl,rfl,hown,hb3⟩
  obtain⟨al,cl,rfl,hat⟩:=OwnRec.at rc5 hown
  have HAT:=hiD hat
  have HB3:Hid (Below w0.heap.size w0 w3):=below_blk HB2.out hb3
  have HRC:=hiD (HM0.out.coins.grown HB3.out)
  have HV3:=hiD (HV0.out.grown HB3.out)
  clear d4 hat hown hb3 HCY HD2
  generalize hl:cellsR bls=l at *
  clear hl
  generalize hln:l.length=nl at *
  have HNL:=hiD hln
  clear hln
  have hnl:nl<=1000000000:=by omega
  have dx10:dx<=10:=by have:=HLN.out;omega
  go_wp2
  go_loopw [8] (fun i wr=>∃ k:Nat,k<=dx/\i=.int .i64 k/\Hid ((dcs.take k).any (fun x=>!hasR l x)=false)/\Below w3.heap.size w3 wr) (fun i _=>dx-(intOf i).toNat)
  case atStart=>exact⟨0,Nat.zero_le _,rfl,by show List.any _ _=false;simp,Below.refl _ _⟩
  case round=>
   obtain⟨k,hk,rfl,hany,hbl⟩:=hrel
   have v6:=(HV3.out.grown hbl).c6
   simp only at v6
   have HBW:Hid (Below X w wr):=HB0.out.trans ((below_blk HB3.out hbl).mono (by omega))
   by_cases hlt:k<dx
   ·have hkl:k<dcs.length:=by have:=HLN.out;omega
    have hkI:(k:Int)<(dx:Int):=by omega
    have hk0:(0:Int)<=(k:Int):=by omega
    rcases HRC.out.grown hbl with hnil|⟨gc,oc,rfl,hrow⟩
    ·rw[hnil] at hkl;simp at hkl
    obtain⟨c0,c1,c2,c3,c4,c5⟩:=coinCells hrow k hkl
    have HS:Hid _:=any_no (fun x:CoinD=>!hasR l x) dcs dN k hkl hany.out
    have HZ:Hid _:=any_yes (fun x:CoinD=>!hasR l x) dcs dN k hkl
    clear hrow c4 c5
    generalize dcs.getD k dN=y at *
    obtain⟨y0,y1,y2,y3,y4,y5⟩:=y
    simp only at c0 c1 c2 c3
    have bD:Below wr.heap.size wr wr.drew:=(Below.refl _ _).drew
    have HATd:Hid (RecAt RCel.v wr.drew al l):=HAT.out.grown (below_blk hbl bD)
    have HKX:Hid (wr.drew.cell? ⟨X,6,none⟩=some (.slice (some ⟨gc,oc,none⟩) dx dy)/\wr.drew.cell? ⟨gc,oc+k*6,none⟩=some (.int .i64 y0)/\wr.drew.cell? ⟨gc,oc+k*6+1,none⟩=some (.int .i64 y1)):=⟨v6,c0,c1⟩
    have HBd:Hid (Below w3.heap.size w3 wr.drew):=below_blk hbl bD
    have HCd:Hid (wr.drew.cell? ⟨gc,oc+k*6+2,none⟩=some (.int .i64 y2)/\wr.drew.cell? ⟨gc,oc+k*6+3,none⟩=some (.int .i64 y3)):=⟨c2,c3⟩
    have hmn:nl<=1000000000000000:=by omega
    clear bD
    go_upto_region 9 with fail
    go_region_held3 (fun w'=>w'.cell? ⟨X,6,none⟩=some (.slice (some ⟨gc,oc,none⟩) dx dy)/\w'.cell? ⟨gc,oc+k*6,none⟩=some (.int .i64 y0)/\w'.cell? ⟨gc,oc+k*6+1,none⟩=some (.int .i64 y1)) (first|go_keep|with_reducible exact HKX.out) ((go_at_call 210;(with_reducible refine(rfind_any al nl cl l y0 y1 wr.drew HATd.out HNL.out hmn).mono ?_);rintro e w4 ⟨rfl,rfl⟩))
    clear c0 c1 c2 c3 v6 hbl
    obtain⟨v6,_,_⟩:=HKX.out
    obtain⟨c2,c3⟩:=HCd.out
    have hbd:=HBd.out
    have HBWd:=hiD HBW.out.drew
    rcases rfind_cases l y0 y1 with hf|⟨j,hj,hf⟩
    ·have hne:(!hasR l ⟨y0,y1,y2,y3,y4,y5⟩)=true:=by
      unfold hasR
      rw[hf]
      rfl
     have HE:Hid (dcs.any (fun x=>!hasR l x)=true):=HZ.out hne
     rw[hf]
     go_upto_region 10 with fail
     go_quiet (fail)
     go_wp2
     go_ret
     exact⟨ret_bool (by rw[HGZ.out,HGE.out,HE.out]),by rw[HXE.out];exact⟨HBW.out.os,HBW.out.tape,HBW.out.output,HBW.out.size,HBW.out.block⟩⟩
    ·rcases HATd.out with hnil|⟨gl,ol,rfl,hrl⟩
     ·rw[hnil] at hj;simp at hj
     obtain⟨_,_,r2,r3,_⟩:=rcCells hrl j hj
     replace r2:wr.cell? ⟨gl,ol+j*5+2,none⟩=some (.int .i64 (l.getD j dR).ad):=r2
     replace r3:wr.cell? ⟨gl,ol+j*5+3,none⟩=some (.int .i64 (l.getD j dR).val):=r3
     replace v6:wr.cell? ⟨X,6,none⟩=some (.slice (some ⟨gc,oc,none⟩) dx dy):=v6
     replace c2:wr.cell? ⟨gc,oc+k*6+2,none⟩=some (.int .i64 y2):=c2
     replace c3:wr.cell? ⟨gc,oc+k*6+3,none⟩=some (.int .i64 y3):=c3
     have HHR:Hid (hasR l ⟨y0,y1,y2,y3,y4,y5⟩=((l.getD j dR).ad== y2&&(l.getD j dR).val== y3)):=by
      show _=_
      unfold hasR
      simp only[hf]
      rw[if_neg (by omega),Int.toNat_natCast]
     clear hrl
     generalize (l.getD j dR).ad=ra at *
     generalize (l.getD j dR).val=rv at *
     have hjI:(j:Int)<(nl:Int):=by have:=HNL.out;omega
     have hj0:(0:Int)<=(j:Int):=by omega
     have hjn:¬((j:Int)<0):=by omega
     have hjd:decide ((j:Int)<0)=false:=decide_eq_false hjn
     rw[hf]
     cases h1:(ra== y2)
     ·have hne1:(ra !=y2)=true:=by simpa [bne] using h1
      have hne:(!hasR l ⟨y0,y1,y2,y3,y4,y5⟩)=true:=by rw[HHR.out,h1];rfl
      have HE:Hid (dcs.any (fun x=>!hasR l x)=true):=HZ.out hne
      go_upto_region 10 with fail
      go_quiet (fail)
      go_wp2
      go_ret
      exact⟨ret_bool (by rw[HGZ.out,HGE.out,HE.out]),by rw[HXE.out];exact⟨HBW.out.os,HBW.out.tape,HBW.out.output,HBW.out.size,HBW.out.block⟩⟩
     ·have hne1:(ra !=y2)=false:=by simpa [bne] using h1
      cases h2:(rv== y3)
      ·have hne2:(rv !=y3)=true:=by simpa [bne] using h2
       have hne:(!hasR l ⟨y0,y1,y2,y3,y4,y5⟩)=true:=by rw[HHR.out,h1,h2];rfl
       have HE:Hid (dcs.any (fun x=>!hasR l x)=true):=HZ.out hne
       go_upto_region 10 with fail
       go_quiet (fail)
       go_wp2
       go_ret
       exact⟨ret_bool (by rw[HGZ.out,HGE.out,HE.out]),by rw[HXE.out];exact⟨HBW.out.os,HBW.out.tape,HBW.out.output,HBW.out.size,HBW.out.block⟩⟩
      ·have hne2:(rv !=y3)=false:=by simpa [bne] using h2
       have hno:(!hasR l ⟨y0,y1,y2,y3,y4,y5⟩)=false:=by rw[HHR.out,h1,h2];rfl
       have HNX:Hid ((dcs.take (k+1)).any (fun x=>!hasR l x)=false):=HS.out hno
       go_upto_region 10 with fail
       go_quiet (fail)
       go_wp2
       go_roundw
       case rel=>exact⟨k+1,by omega,by go_num,HNX,⟨hbd.os,hbd.tape,hbd.output,hbd.size,hbd.block⟩⟩
       case measure=>simp[intOf];omega
   ·have HE:Hid (dcs.any (fun x=>!hasR l x)=false):=(any_done _ dcs dx HLN.out.2.2.1 k (by omega) hany.out).symm
    go_wp2
    go_ret
    exact⟨ret_bool (by rw[HGZ.out,HGE.out,HE.out]),by rw[HXE.out];exact HBW⟩
 ·rw[hst,Bool.true_or] at HGE
  have HBW:Hid (Below X w w2):=HB0.out.trans (HB2.out.mono (by omega))
  go_wp2
  go_ret
  exact⟨ret_bool (by rw[HGZ.out,HGE.out]),by rw[HXE.out];exact HBW⟩
structure Tx3 (w:World) (XB:Nat) (a b c:Value):Prop where
 c0:w.cell? ⟨XB,0,none⟩=some a
 c1:w.cell? ⟨XB,1,none⟩=some b
 c2:w.cell? ⟨XB,2,none⟩=some c
 f0:w.frozen? ⟨XB,0,none⟩=false
 f1:w.frozen? ⟨XB,1,none⟩=false
 f2:w.frozen? ⟨XB,2,none⟩=false
theorem Tx3.gb (h:w.grownBy w' row) (hx:Tx3 w XB a b c) (hne:some XB≠row):Tx3 w' XB a b c:=by
 have hlt:=cell_lt hx.c0
 exact⟨gb_cell h hx.c0 hne,gb_cell h hx.c1 hne,gb_cell h hx.c2 hne,(gb_frozen h hlt hne).trans hx.f0,(gb_frozen h hlt hne).trans hx.f1,(gb_frozen h hlt hne).trans hx.f2⟩
theorem Tx3.grown (h:Below w.heap.size w w') (hx:Tx3 w XB a b c):Tx3 w' XB a b c:=hx.gb (gb_below h Option.none) (by simp)
theorem Tx3.new (w:World) (a b c:Value) (T:TypeId):Tx3 (w.alloc (.cells #[a,b,c] T)) w.heap.size a b c:=by
 refine⟨?_,?_,?_,World.frozen?_alloc_at _ _ _ _ rfl,World.frozen?_alloc_at _ _ _ _ rfl,World.frozen?_alloc_at _ _ _ _ rfl⟩
 all_goals
  rw[World.cell?_alloc_new]
  rfl
theorem ne_off {b:Nat} (h:i≠j):(⟨b,i,none⟩:Addr)≠⟨b,j,none⟩:=fun e=>h (congrArg Addr.off e)
theorem Tx3.set1 (h:Tx3 w XB a b c) (v:Value):Tx3 (w.setCell ⟨XB,1,none⟩ v) XB a v c:=
 ⟨by rw[World.cell?_setCell_other _ _ _ _ (ne_off (by decide))];exact h.c0,World.cell?_setCell_same _ _ _ h.c1,by rw[World.cell?_setCell_other _ _ _ _ (ne_off (by decide))];exact h.c2,
  by rw[World.frozen?_setCell];exact h.f0,by rw[World.frozen?_setCell];exact h.f1,by rw[World.frozen?_setCell];exact h.f2⟩
theorem Tx3.set2 (h:Tx3 w XB a b c) (v:Value):Tx3 (w.setCell ⟨XB,2,none⟩ v) XB a b v:=
 ⟨by rw[World.cell?_setCell_other _ _ _ _ (ne_off (by decide))];exact h.c0,by rw[World.cell?_setCell_other _ _ _ _ (ne_off (by decide))];exact h.c1,World.cell?_setCell_same _ _ _ h.c2,
  by rw[World.frozen?_setCell];exact h.f0,by rw[World.frozen?_setCell];exact h.f1,by rw[World.frozen?_setCell];exact h.f2⟩
def Seals (w:World) (base:Nat) (row:Option Nat) (Q:Nat->InD->Prop) (xs:List InD):Prop:=
 ∀ j,j<xs.length->InOk w (xs.getD j dIn)/\Q j (xs.getD j dIn)/\∀ a,(xs.getD j dIn).ao=some a->base<=a.block/\a.block<w.heap.size/\some a.block≠row
theorem Seals.gb (h:w.grownBy w' row') (hs:Seals w base row Q xs) (hne:∀ k,row'=some k->k<base\/row=some k):Seals w' base row Q xs:=by
 intro j hj
 obtain⟨h1,h2,h3⟩:=hs j hj
 refine⟨gb_ok h h1 (fun a ha e=>?_),h2,fun a ha=>⟨(h3 a ha).1,ltL (h3 a ha).2.1 h.size,(h3 a ha).2.2⟩⟩
 rcases hne a.block e.symm with hk|hk
 ·have:=(h3 a ha).1;omega
 ·exact(h3 a ha).2.2 hk.symm
structure SInvT (W:World) (XB:Nat) (Q:Nat->InD->Prop) (t:Int) (vi vo:Value) (xs:List InD) (wr:World):Prop where
 own:OwnIns wr (XB+1) vi xs
 ok:Seals wr (XB+1) vi.ownBlock Q xs
 tx:Tx3 wr XB (.int .i64 t) vi vo
 bel:Below XB W wr
 lt:XB<wr.heap.size
theorem SInvT.grown (h:SInvT W XB Q t vi vo xs wr) (hb:Below wr.heap.size wr ws):SInvT W XB Q t vi vo xs ws:=by
 have hg:=gb_below hb Option.none
 exact⟨owns_gb hg h.own (fun k _=>by simp),h.ok.gb hg (fun k hk=>by cases hk),h.tx.grown hb,h.bel.trans (hb.mono (by have:=h.lt;omega)),ltL h.lt hb.size⟩
theorem SInvT.push (h:SInvT W XB Q t vi vo xs wr) (hb:Below wr.heap.size wr ws)
 (hy:InOk ws y) (hq:Q xs.length y) (hyb:∀ a,y.ao=some a->wr.heap.size<=a.block/\a.block<ws.heap.size)
 (hown:OwnIns w2 (XB+1) (.slice (some ⟨g,0,none⟩) (xs.length+1) cap) (xs++[y])) (hg:ws.grownBy w2 vi.ownBlock) (hlies:vi.ownBlock=some g\/ws.heap.size<=g):
 SInvT W XB Q t (.slice (some ⟨g,0,none⟩) (xs.length+1) cap) vo (xs++[y]) (w2.setCell ⟨XB,1,none⟩ (.slice (some ⟨g,0,none⟩) (xs.length+1) cap)):=by
 have hs:=h.grown hb
 have hvi:=owns_blk h.own
 have hvX:some XB≠vi.ownBlock:=fun e=>by have:=(hvi XB e.symm).1;omega
 have hgX:XB+1<=g:=(owns_blk hown g rfl).1
 have hset:=gb_set w2 XB 1 (.slice (some ⟨g,0,none⟩) (xs.length+1) cap)
 have hvg:∀ k,vi.ownBlock=some k->XB<=k:=fun k hk=>by have:=(hvi k hk).1;omega
 refine⟨owns_gb hset hown (fun k hk e=>?_),?_,(hs.tx.gb hg hvX).set1 _,((hs.bel.trans (gb_to_below hg (by have:=hs.lt;omega) hvg)).setCell leR _),?_⟩
 ·simp[Value.ownBlock] at hk
  subst hk
  injection e with e
  omega
 ·intro j hj
  rw[List.length_append] at hj
  by_cases hjl:j<xs.length
  ·have e:(xs++[y]).getD j dIn=xs.getD j dIn:=by simp only[List.getD];rw[List.getElem?_append_left hjl]
   rw[e]
   obtain⟨h1,h2,h3⟩:=hs.ok j hjl
   have hoff:Off (xs.getD j dIn).ao vi.ownBlock:=fun a ha=>(h3 a ha).2.2
   have hoff2:Off (xs.getD j dIn).ao (some XB):=fun a ha e=>by injection e with e;have:=(h3 a ha).1;omega
   refine⟨gb_ok hset (gb_ok hg h1 hoff) hoff2,h2,fun a ha=>⟨(h3 a ha).1,?_,fun e=>?_⟩⟩
   ·rw[World.size_setCell];exact ltL (h3 a ha).2.1 hg.size
   ·simp[Value.ownBlock] at e
    rcases hlies with hl|hl
    ·exact(h3 a ha).2.2 (by rw[e];exact hl.symm)
    ·have:=(h3 a ha).2.1;omega
  ·have e:j=xs.length:=by simp at hj;omega
   subst e
   have e:(xs++[y]).getD xs.length dIn=y:=by simp[List.getD]
   rw[e]
   have hoff:Off y.ao vi.ownBlock:=fun a ha e=>by have:=(hvi _ e.symm).2;have:=(hyb a ha).1;omega
   have hoff2:Off y.ao (some XB):=fun a ha e=>by injection e with e;have:=(hyb a ha).1;have:=h.lt;omega
   refine⟨gb_ok hset (gb_ok hg hy hoff) hoff2,hq,fun a ha=>⟨?_,?_,fun e=>?_⟩⟩
   ·have:=(hyb a ha).1;have:=h.lt;omega
   ·rw[World.size_setCell];exact ltL (hyb a ha).2 hg.size
   ·simp[Value.ownBlock] at e
    rcases hlies with hl|hl
    ·have:=(hvi g hl).2;have:=(hyb a ha).1;omega
    ·have:=(hyb a ha).2;omega
 ·rw[World.size_setCell];exact ltL hs.lt hg.size
structure OInvT (Wm:World) (XB:Nat) (Q:Int×Int->Prop) (t:Int) (vi vo:Value) (ys:LII) (wr:World):Prop where
 own:OwnOuts wr Wm.heap.size vo ys
 ok:∀ j,j<ys.length->Q (ys.getD j (0,0))
 tx:Tx3 wr XB (.int .i64 t) vi vo
 gb:Wm.grownBy wr (some XB)
 lt:XB<Wm.heap.size
theorem OInvT.grown {Q:Int×Int->Prop} (h:OInvT Wm XB Q t vi vo ys wr) (hb:Below wr.heap.size wr ws):OInvT Wm XB Q t vi vo ys ws:=
 ⟨owns_gb (gb_below hb Option.none) h.own (fun k _=>by simp),h.ok,h.tx.grown hb,gb_trans h.gb (gb_below hb _),h.lt⟩
theorem OInvT.push {Q:Int×Int->Prop} {y:Int×Int} (hs:OInvT Wm XB Q t vi vo ys ws) (hq:Q y)
 (hown:OwnOuts w2 Wm.heap.size (.slice (some ⟨g,0,none⟩) (ys.length+1) cap) (ys++[y])) (hg:ws.grownBy w2 vo.ownBlock):
 OInvT Wm XB Q t vi (.slice (some ⟨g,0,none⟩) (ys.length+1) cap) (ys++[y]) (w2.setCell ⟨XB,2,none⟩ (.slice (some ⟨g,0,none⟩) (ys.length+1) cap)):=by
 have hvo:=owns_blk hs.own
 have hlt:=hs.lt
 have hvX:some XB≠vo.ownBlock:=fun e=>by have:=(hvo XB e.symm).1;omega
 have hgX:Wm.heap.size<=g:=(owns_blk hown g rfl).1
 have hset:=gb_set w2 XB 2 (.slice (some ⟨g,0,none⟩) (ys.length+1) cap)
 have hg2:Wm.grownBy w2 (some XB):=by
  refine⟨hg.os.trans hs.gb.os,hg.tape.trans hs.gb.tape,hg.output.trans hs.gb.output,leT hs.gb.size hg.size,fun k hk hne=>?_⟩
  refine(hg.block k (ltL hk hs.gb.size) (fun e=>?_)).trans (hs.gb.block k hk hne)
  have:=(hvo k e.symm).1
  omega
 refine⟨owns_gb hset hown (fun k hk e=>?_),fun j hj=>?_,(hs.tx.gb hg hvX).set2 _,gb_trans hg2 hset,hlt⟩
 ·simp[Value.ownBlock] at hk
  subst hk
  injection e with e
  omega
 ·rw[List.length_append] at hj
  by_cases hjl:j<ys.length
  ·have e:(ys++[y]).getD j (0,0)=ys.getD j (0,0):=by simp only[List.getD];rw[List.getElem?_append_left hjl]
   rw[e]
   exact hs.ok j hjl
  ·have e:j=ys.length:=by simp at hj;omega
   subst e
   have e:(ys++[y]).getD ys.length (0,0)=y:=by simp[List.getD]
   rw[e]
   exact hq
structure Fresh (w:World) (base:Nat) (vi vo:Value) (Q:Nat->InD->Prop) (xs:List InD) (ys:LII):Prop where
 ins:OwnIns w base vi xs
 outs:OwnOuts w base vo ys
 ok:Seals w base vi.ownBlock Q xs
 apart:∀ k,vo.ownBlock=some k->some k≠vi.ownBlock/\∀ j,j<xs.length->Off (xs.getD j dIn).ao (some k)
theorem Fresh.of (hs:SInvT W XB Q t vi vo0 xs Wm) (ho:OInvT Wm XB P t vi vo ys wr):Fresh wr (XB+1) vi vo Q xs ys:=by
 have hvi:=owns_blk hs.own
 have hvo:=owns_blk ho.own
 refine⟨owns_gb ho.gb hs.own (fun k hk e=>?_),?_,hs.ok.gb ho.gb (fun k hk=>?_),fun k hk=>⟨fun e=>?_,fun j hj a ha e=>?_⟩⟩
 ·injection e with e
  have:=(hvi k hk).1
  omega
 ·obtain⟨h1,h2|⟨g,cap,cur,e,hb,hr⟩⟩:=ho.own
  ·exact⟨h1,Or.inl h2⟩
  ·exact⟨h1,Or.inr ⟨g,cap,cur,e,by have:=hs.lt;omega,hr⟩⟩
 ·injection hk with hk
  exact Or.inl (by omega)
 ·have:=(hvo k hk).1
  have:=(hvi k e.symm).2
  omega
 ·injection e with e
  have:=((hs.ok j hj).2.2 a ha).2.1
  have:=(hvo k hk).1
  omega
theorem Fresh.gb (h:w.grownBy w' row) (hf:Fresh w base vi vo Q xs ys) (hr:∀ k,row=some k->k<base):Fresh w' base vi vo Q xs ys:=by
 have hvi:=owns_blk hf.ins
 have hvo:=owns_blk hf.outs
 exact⟨owns_gb h hf.ins (fun k hk e=>by have:=hr k e.symm;have:=(hvi k hk).1;omega),owns_gb h hf.outs (fun k hk e=>by have:=hr k e.symm;have:=(hvo k hk).1;omega),hf.ok.gb h (fun k hk=>Or.inl (hr k hk)),hf.apart⟩
theorem Fresh.grown (h:Below w.heap.size w w') (hf:Fresh w base vi vo Q xs ys):Fresh w' base vi vo Q xs ys:=
 hf.gb (gb_below h Option.none) (fun k hk=>by cases hk)
theorem Fresh.reads (hf:Fresh w base vi vo Q xs ys):
 ∃ ai c ap d,vi=.slice ai xs.length c/\vo=.slice ap ys.length d/\InsAt w ai xs/\OutsAt w ap ys/\(ai=none->c=0)/\(ap=none->d=0):=by
 obtain⟨ai,c,e1,h1,n1⟩:∃ ai c,vi=.slice ai xs.length c/\InsAt w ai xs/\(ai=none->c=0):=by
  rcases hf.ins.cells with⟨h1,h2⟩|⟨g,c,h1,_,_,h4,_⟩
  ·subst h2;exact⟨none,0,h1,Or.inl rfl,fun _=>rfl⟩
  ·exact⟨_,c,h1,Or.inr ⟨g,0,rfl,fun j hj=>⟨by rw[Nat.zero_add];exact h4 j hj,(hf.ok j hj).1⟩⟩,fun h=>by cases h⟩
 obtain⟨ap,d,e2,h2,n2⟩:∃ ap d,vo=.slice ap ys.length d/\OutsAt w ap ys/\(ap=none->d=0):=by
  rcases hf.outs.cells with⟨h1,h2⟩|⟨g,c,h1,_,_,h4,_⟩
  ·subst h2;exact⟨none,0,h1,Or.inl rfl,fun _=>rfl⟩
  ·exact⟨_,c,h1,Or.inr ⟨g,0,rfl,h4⟩,fun h=>by cases h⟩
 exact⟨ai,c,ap,d,e1,e2,h1,h2,n1,n2⟩
theorem owns_lowerT (h:w.ownsRow base e size v n cs) (hB:B<=base):w.ownsRow B e size v n cs:=by
 obtain⟨h1,h|⟨g,cap,cur,rfl,hbg,hg⟩⟩:=h
 ·exact⟨h1,Or.inl h⟩
 ·exact⟨h1,Or.inr ⟨g,cap,cur,rfl,leT hB hbg,hg⟩⟩
theorem Fresh.lower (h:Fresh w base vi vo Q xs ys) (hB:B<=base):Fresh w B vi vo Q xs ys:=
 ⟨owns_lowerT h.ins hB,owns_lowerT h.outs hB,fun j hj=>⟨(h.ok j hj).1,(h.ok j hj).2.1,fun a ha=>⟨leT hB ((h.ok j hj).2.2 a ha).1,((h.ok j hj).2.2 a ha).2⟩⟩,h.apart⟩
end
end Go.Proofs.YtffgpepngcnjeabGreat
