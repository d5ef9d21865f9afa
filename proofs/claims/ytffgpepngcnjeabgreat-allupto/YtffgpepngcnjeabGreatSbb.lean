import Derived.Test.YtffgpepngcnjeabGreatSba
namespace Go.Proofs.YtffgpepngcnjeabGreat
set_option maxRecDepth 100000
set_option maxHeartbeats 4000000
section
open Go.RowKit
variable {b k:Nat} {w w':World} {p:CoinD->Bool} {L:List CoinD} {gs:List Bool} {bI:Int}
theorem below_dn (h:Below b w w') (n:Nat):Below b w (w'.drewN n):=⟨h.os,h.tape,h.output,h.size,h.block⟩
def sliceLen:Value->Nat
 |.slice _ n _=>n
 |_=>0
def Bst (p:CoinD->Bool) (L:List CoinD) (gs:List Bool) (k:Nat) (bI:Int):Prop:=
 (bI=-1/\∀ j,j<k->p (L.getD j dN)=true->gs.getD j false=true)\/
 ∃ b:Nat,bI=(b:Int)/\b<k/\p (L.getD b dN)=true/\gs.getD b false=false/\(∀ j,j<b->p (L.getD j dN)=true->gs.getD j false=false->(L.getD j dN).val<(L.getD b dN).val)/\(∀ j,b<j->j<k->p (L.getD j dN)=true->gs.getD j false=false->(L.getD j dN).val<=(L.getD b dN).val)
theorem Bst.zero (p:CoinD->Bool) (L:List CoinD) (gs:List Bool):Bst p L gs 0 (-1):=Or.inl ⟨rfl,fun j hj=>absurd hj (by omega)⟩
theorem Bst.skip (h:Bst p L gs k bI) (hs:p (L.getD k dN)=false\/gs.getD k false=true):Bst p L gs (k+1) bI:=by
 rcases h with⟨e,h⟩|⟨b,e,h1,h2,h3,h4,h5⟩
 ·refine Or.inl ⟨e,fun j hj hp=>?_⟩
  by_cases ej:j=k
  ·subst ej
   rcases hs with hs|hs
   ·rw[hs] at hp;cases hp
   ·exact hs
  ·exact h j (by omega) hp
 ·refine Or.inr ⟨b,e,by omega,h2,h3,h4,fun j hj hjk hp hg=>?_⟩
  by_cases ej:j=k
  ·subst ej
   rcases hs with hs|hs
   ·rw[hs] at hp;cases hp
   ·rw[hs] at hg;cases hg
  ·exact h5 j hj (by omega) hp hg
theorem Bst.low (h:Bst p L gs k (b:Int)) (hs:(L.getD k dN).val<=(L.getD b dN).val):Bst p L gs (k+1) (b:Int):=by
 rcases h with⟨e,h⟩|⟨b',e,h1,h2,h3,h4,h5⟩
 ·omega
 ·have:b=b':=by omega
  subst this
  refine Or.inr ⟨b,e,by omega,h2,h3,h4,fun j hj hjk hp hg=>?_⟩
  by_cases ej:j=k
  ·subst ej;exact hs
  ·exact h5 j hj (by omega) hp hg
theorem Bst.first (h:Bst p L gs k bI) (h0:bI<0) (hp:p (L.getD k dN)=true) (hg:gs.getD k false=false):Bst p L gs (k+1) (k:Int):=by
 rcases h with⟨e,h⟩|⟨b',e,_⟩
 ·refine Or.inr ⟨k,rfl,by omega,hp,hg,fun j hj hp hg=>?_,fun j hj hjk=>by omega⟩
  rw[h j hj hp] at hg;cases hg
 ·omega
theorem Bst.more (h:Bst p L gs k (b:Int)) (hp:p (L.getD k dN)=true) (hg:gs.getD k false=false) (hs:(L.getD b dN).val<(L.getD k dN).val):Bst p L gs (k+1) (k:Int):=by
 rcases h with⟨e,h⟩|⟨b',e,h1,h2,h3,h4,h5⟩
 ·omega
 ·have:b=b':=by omega
  subst this
  refine Or.inr ⟨k,rfl,by omega,hp,hg,fun j hj hp hg=>?_,fun j hj hjk=>by omega⟩
  by_cases e1:j<b
  ·have:=h4 j e1 hp hg;omega
  ·by_cases e2:j=b
   ·subst e2;exact hs
   ·have:=h5 j (by omega) hj hp hg;omega
theorem Bst.bd (h:Bst p L gs k bI):bI=-1\/∃ b:Nat,bI=(b:Int)/\b<k:=by
 rcases h with⟨e,_⟩|⟨b,e,h1,_⟩
 ·exact Or.inl e
 ·exact Or.inr ⟨b,e,h1⟩
theorem candidates_any (N Nm:NPr) (D:Nat) (ao:OAd) (c:Nat) (bls:List (List TxD)) (s:Int) (g:Nat) (ar:OAd) (cr:Nat) (ac:OAd) (cc:Nat) (am:OAd) (nm cm:Nat) (ms:List MadeD) (r:Int) (L:List CoinD) (w:World) (hx:DCh N w D ao c bls) (hg:Good bls) (hm:bls.length<=40) (ha:DAd w D s g ar cr ac cc) (g1:g<=20) (hp5:w.cell? ⟨D,5,none⟩=some (.slice am nm cm)) (hms:RecAt MadeD.v w am ms) (hmn:ms.length=nm) (hmm:nm<=9007199254740992) (hok:∀ a∈ms,MadeOk Nm w a) (hr:0<=r/\r<=1000)
 (hL:ownR (cellsR bls) (adrs s 0 100) (adrs s 1 100) (winR (cellsR bls) s g 0) (winR (cellsR bls) s g 1)=L) (hLl:L.length<=10000) (hv:CVals L) (hst:SortC L):
 Calls Tryz.prog 164 #[.pointer (some ⟨D,0,none⟩),.int .i64 r] w fun e w'=>∃ v,e=.returned v/\OwnRec CoinD.l 107 6 w' w.heap.size v (candD ms r L)/\Below w.heap.size w w':=by
 have HX:=hiD hx
 have HG:=hiD hg
 have HA:=hiD ha
 have HP5:=hiD hp5
 have HMS:=hiD hms
 have HMN:=hiD hmn
 have HOK:=hiD hok
 have HL:Hid _:=hL
 have HV:=hiD hv
 have HST:=hiD hst
 have hDl:D<w.heap.size:=cell_lt hp5
 clear hx hg ha hp5 hms hmn hok hL hv hst
 go_enter Tryz.func164,Tryz.ntmps164
 go_wp2_with fail
 refine(rCoins_any N D ao c bls s g ar cr ac cc _ HX HG hm HA g1).mono ?_
 rintro e w1 ⟨v1,rfl,hown1,hb1⟩
 rw[HL.out] at hown1
 obtain⟨al,cl,rfl,hat⟩:=OwnRec.at coin6 hown1
 have HAT:=hiD hat
 have HLL:Hid (candD ms r L=(remB (elD ms r) L (List.replicate L.length false)).foldl (insZ true) []):=by show _=_;rw[remB_start];rfl
 have HCL:Hid ((candD ms r L).length<=L.length):=candD_len ms r L
 have HP51:Hid (w1.cell? ⟨D,5,none⟩=some (.slice am nm cm)):=(hb1.cell (p:=⟨D,5,none⟩) hDl).trans HP5.out
 have HMS1:=hiD (HMS.out.grown hb1)
 have HOK1:Hid (∀ a∈ms,MadeOk Nm w1 a):=fun a ha=>(HOK.out a ha).grown hb1
 clear hat hown1 HX HG HA HP5 HMS HOK HL
 generalize hn:L.length=n at *
 have HN:=hiD hn
 clear hn
 have hmk:=make_bools n (by omega)
 have HG0:Hid (GoneAt (w1.alloc (.cells (Go.madeCells #[Value.bool false] n) 4)) w1.heap.size n (List.replicate n false)):=GoneAt.new w1 n
 have HB0:Hid (Below w1.heap.size w1 (w1.alloc (.cells (Go.madeCells #[Value.bool false] n) 4))):=(Below.refl _ _).alloc leR _
 have HS0:Hid ((w1.alloc (.cells (Go.madeCells #[Value.bool false] n) 4)).heap.size=w1.heap.size+1):=by show _=_;simp
 have hs1:=hb1.size
 go_wp2
 generalize w1.alloc (.cells (Go.madeCells #[Value.bool false] n) 4)=w2 at *
 generalize hGe:w1.heap.size=G at *
 have HGe:=hiD hGe
 clear hGe hmk
 have hDG:D<G:=by omega
 go_loopw [7] (fun v wr=>∃ (gs:List Bool) (out:List CoinD),OwnRec CoinD.l 107 6 wr (G+1) v out/\GoneAt wr G n gs/\Hid (out++(remB (elD ms r) L gs).foldl (insZ true) []=candD ms r L)/\Hid (Below G w1 wr)/\G<wr.heap.size) (fun v _=>n+1-sliceLen v)
 case atStart=>exact⟨_,[],OwnRec.nil _ _ _ _ _,HG0,by show _=_;rw[HLL.out];rfl,HB0,by have:=HS0.out;omega⟩
 case round=>
  obtain⟨gs,out,hown,hgo,hz,hbl,hGl⟩:=hrel
  obtain⟨vo,co,rfl,hato⟩:=OwnRec.at coin6 hown
  clear hato
  have HOW:=hiD hown
  have HGO:=hiD hgo
  have HBW:Hid (Below w1.heap.size w1 wr):=by rw[HGe.out];exact hbl.out
  clear hown hgo hbl
  obtain⟨wo,rfl⟩:∃ wo:World,wo=wr:=⟨_,rfl⟩
  generalize hol:out.length=ol at *
  have HOLE:=hiD hol
  clear hol
  go_wp2
  go_loopw [8,9] (fun bv kv wr=>∃ (k:Nat) (bI:Int),k<=n/\kv=.int .i64 k/\bv=.int .i64 bI/\Hid (Bst (elD ms r) L gs k bI)/\Below wo.heap.size wo wr) (fun _ kv _=>n-(intOf kv).toNat)
  case atStart=>exact⟨0,-1,Nat.zero_le _,rfl,rfl,Bst.zero _ _ _,Below.refl _ _⟩
  case round=>
   obtain⟨k,bI,hk,rfl,rfl,hb,hbl⟩:=hrel
   have hszo:=hbl.size
   by_cases hlt:k<n
   ·have hb1r:Below w1.heap.size w1 wr:=below_blk HBW.out hbl
    have hkl:k<L.length:=by rw[HN.out];exact hlt
    have hvk:=HV.out (L.getD k dN) (getD_mem L dN k hkl)
    have hbd:=hb.out.bd
    rcases HAT.out.grown hb1r with hnil|⟨gc,oc,rfl,hrow⟩
    ·rw[hnil] at hkl;simp at hkl
    obtain⟨e0,e1,e2,e3,e4,e5⟩:=coinCells hrow k hkl
    have HROW:=hiD hrow
    have HG1:Hid (GoneAt wr G n gs):=HGO.out.grown hGl hbl
    have HEL:Hid (elD ms r (L.getD k dN)=((!takenB ms (L.getD k dN).id (L.getD k dN).pos&&!usedR ms (L.getD k dN).br (L.getD k dN).ix)&&decide (1<=worthZ r (L.getD k dN)))):=rfl
    have HSK:Hid (elD ms r (L.getD k dN)=false\/gs.getD k false=true->Bst (elD ms r) L gs (k+1) bI):=fun h=>hb.out.skip h
    have HFI:Hid (bI<0->elD ms r (L.getD k dN)=true->gs.getD k false=false->Bst (elD ms r) L gs (k+1) (k:Int)):=fun h1 h2 h3=>hb.out.first h1 h2 h3
    have HLO:Hid (∀ b:Nat,bI=(b:Int)->(L.getD k dN).val<=(L.getD b dN).val->Bst (elD ms r) L gs (k+1) bI):=fun b e h=>by subst e;exact hb.out.low h
    have HMO:Hid (∀ b:Nat,bI=(b:Int)->elD ms r (L.getD k dN)=true->gs.getD k false=false->(L.getD b dN).val<(L.getD k dN).val->Bst (elD ms r) L gs (k+1) (k:Int)):=fun b e h1 h2 h=>by subst e;exact hb.out.more h1 h2 h
    have hkI:(k:Int)<(n:Int):=by omega
    have hk0:(0:Int)<=(k:Int):=by omega
    have hGr:G<wr.heap.size:=by omega
    clear hrow hb
    generalize L.getD k dN=y at *
    obtain⟨y0,y1,y2,y3,y4,y5⟩:=y
    simp only at e0 e1 e2 e3 e4 e5 hvk HEL
    have HWD:Hid (worthZ r ⟨y0,y1,y2,y3,y4,y5⟩=y3-7*r):=rfl
    go_upto_region 9 with (go_at_call 183;refine(dFree_any Nm D am nm cm ms ⟨y0,y1,y2,y3,y4,y5⟩ _ ((hb1r.cell (p:=⟨D,5,none⟩) (by rw[HGe.out];exact hDG)).trans HP51) (HMS1.out.grown hb1r) HMN hmm (fun a ha=>(HOK1 a ha).grown hb1r)).mono ?_;rintro e w3 ⟨rfl,hb3⟩)
    have HROW3:=hiD (HROW.out.grown hb3)
    obtain⟨d0,d1,d2,d3,d4,d5⟩:w3.cell? ⟨gc,oc+k*6,none⟩=some (.int .i64 y0)/\w3.cell? ⟨gc,oc+k*6+1,none⟩=some (.int .i64 y1)/\w3.cell? ⟨gc,oc+k*6+2,none⟩=some (.int .i64 y2)/\w3.cell? ⟨gc,oc+k*6+3,none⟩=some (.int .i64 y3)/\w3.cell? ⟨gc,oc+k*6+4,none⟩=some (.int .i64 y4)/\w3.cell? ⟨gc,oc+k*6+5,none⟩=some (.int .i64 y5):=⟨(hb3.cell (p:=⟨gc,oc+k*6,none⟩) (cell_lt e0)).trans e0,(hb3.cell (p:=⟨gc,oc+k*6+1,none⟩) (cell_lt e1)).trans e1,(hb3.cell (p:=⟨gc,oc+k*6+2,none⟩) (cell_lt e2)).trans e2,(hb3.cell (p:=⟨gc,oc+k*6+3,none⟩) (cell_lt e3)).trans e3,(hb3.cell (p:=⟨gc,oc+k*6+4,none⟩) (cell_lt e4)).trans e4,(hb3.cell (p:=⟨gc,oc+k*6+5,none⟩) (cell_lt e5)).trans e5⟩
    clear e0 e1 e2 e3 e4 e5
    go_upto_region 10 with (go_at_call 205;refine(dWorth_any ⟨y0,y1,y2,y3,y4,y5⟩ r _ hr hvk).mono ?_;rintro e w4 ⟨rfl,hb4⟩;rw[HWD.out])
    have hb34:=below_blk hb3 hb4
    have f3:=(hb4.cell (p:=⟨gc,oc+k*6+3,none⟩) (cell_lt d3)).trans d3
    have gk:=(HG1.out.grown hGr hb34).cell k hlt
    have HROW4:=hiD (HROW3.out.grown hb4)
    have HB4:Hid (Below wo.heap.size wo w4):=below_blk hbl hb34
    clear d0 d1 d2 d3 d4 d5 hb3 hb4 hb34 HROW3 HROW HG1
    generalize hfr:(!takenB ms y0 y1&&!usedR ms y4 y5)=fr at *
    generalize gs.getD k false=gn at *
    rw[HWD.out] at HEL
    generalize hel:elD ms r ⟨y0,y1,y2,y3,y4,y5⟩=el at *
    clear hfr hel
    cases fr
    ·go_quiet (fail)
     go_wp2
     go_roundw
     case rel=>exact⟨k+1,bI,by omega,by go_num,rfl,HSK (Or.inl (by rw[HEL.out];rfl)),below_dn HB4 _⟩
     case measure=>simp[intOf];omega
    ·by_cases hw1:1<=y3-7*r
     ·have HEL1:Hid (el=true):=by show _=_;rw[HEL.out,decide_eq_true hw1];rfl
      have hwd:decide (1<=y3-7*r)=true:=decide_eq_true hw1
      cases gn
      ·rcases hbd with rfl|⟨b,rfl,hbk⟩
       ·go_quiet (fail)
        go_wp2
        go_roundw
        case rel=>exact⟨k+1,k,by omega,by go_num,rfl,HFI (by omega) HEL1 rfl,below_dn HB4 _⟩
        case measure=>simp[intOf];omega
       ·have hbl2:b<L.length:=by rw[HN.out];omega
        obtain⟨_,_,_,b3,_,_⟩:=coinCells HROW4.out b hbl2
        have hbI:(b:Int)<(n:Int):=by omega
        have hb0:(0:Int)<=(b:Int):=by omega
        have hbn:decide ((b:Int)<0)=false:=decide_eq_false (by omega)
        have HLOb:=HLO.out b rfl
        have HMOb:=HMO.out b rfl
        have HLO1:Hid _:=HLOb
        have HMO1:Hid _:=HMOb
        clear HLOb HMOb HLO HMO
        generalize (L.getD b dN).val=bv at *
        by_cases hgt:bv<y3
        ·have hgd:decide (bv<y3)=true:=decide_eq_true hgt
         go_quiet (fail)
         go_wp2
         go_roundw
         case rel=>exact⟨k+1,k,by omega,by go_num,rfl,HMO1 HEL1 rfl hgt,below_dn HB4 _⟩
         case measure=>simp[intOf];omega
        ·have hgd:decide (bv<y3)=false:=decide_eq_false hgt
         go_quiet (fail)
         go_wp2
         go_roundw
         case rel=>exact⟨k+1,b,by omega,by go_num,rfl,HLO1 (by omega),below_dn HB4 _⟩
         case measure=>simp[intOf];omega
      ·go_quiet (fail)
       go_wp2
       go_roundw
       case rel=>exact⟨k+1,bI,by omega,by go_num,rfl,HSK (Or.inr rfl),below_dn HB4 _⟩
       case measure=>simp[intOf];omega
     ·have hwd:decide (1<=y3-7*r)=false:=decide_eq_false hw1
      go_quiet (fail)
      go_wp2
      go_roundw
      case rel=>exact⟨k+1,bI,by omega,by go_num,rfl,HSK (Or.inl (by rw[HEL.out,decide_eq_false hw1];rfl)),below_dn HB4 _⟩
      case measure=>simp[intOf];omega
   ·have hkn:k=n:=by omega
    subst hkn
    have hb1r:Below w1.heap.size w1 wr:=below_blk HBW.out hbl
    have HOr:=hiD (HOW.out.grown hbl)
    have HG1:Hid (GoneAt wr G k gs):=HGO.out.grown hGl hbl
    have hGr:G<wr.heap.size:=by omega
    have HB1:=hiD hb1r
    clear hlt hk
    rcases hb.out with⟨rfl,hno⟩|⟨b,rfl,h1,h2,h3,h4,h5⟩
    ·have HF:Hid (out=candD ms r L):=by
      show _=_
      rw[<-hz.out,remB_nil (fun j hj hp=>hno j (by rw[<-HN.out];exact hj) hp)]
      simp
     clear hno
     go_wp2
     go_ret
     exact⟨_,rfl,by rw[<-HF.out];exact owns_lower HOr (by omega),hb1.trans (HB1.out.mono (by rw[HGe.out];exact hs1))⟩
    ·have HPK:Hid _:=remB_pick (by rw[HN.out,HG1.out.len]) HST.out b (by rw[HN.out];exact h1) h2 h3 h4 (fun j hj hjl=>h5 j hj (by rw[<-HN.out];exact hjl))
     have hbl3:b<L.length:=by rw[HN.out];exact h1
     rcases HAT.out.grown hb1r with hnil|⟨gc,oc,rfl,hrow⟩
     ·rw[hnil] at hbl3;simp at hbl3
     obtain⟨e0,e1,e2,e3,e4,e5⟩:=coinCells hrow b hbl3
     have hgcG:gc<G:=by
      have h6:gc<w1.heap.size:=by
       rcases HAT.out with hn2|⟨g3,o3,e3',hr3⟩
       ·rw[hn2] at hbl3;simp at hbl3
       ·injection e3' with e3'
        injection e3' with e3' _ _
        subst e3'
        exact cell_lt (coinCells hr3 b hbl3).1
      rw[HGe.out] at h6
      exact h6
     have gk:=HG1.out.cell b h1
     have gf:=HG1.out.fz b
     have HG2:Hid (GoneAt (wr.setCell ⟨G,b,none⟩ (.bool true)) G k (gs.set b true)):=HG1.out.set b h1
     have HO2:Hid (OwnRec CoinD.l 107 6 (wr.setCell ⟨G,b,none⟩ (.bool true)) (G+1) (.slice vo ol co) out):=own_set HOr.out _ _ _ (fun e=>by have:=(HOr.out.blk _ e).1;omega)
     have HB2:Hid (Below G w1 (wr.setCell ⟨G,b,none⟩ (.bool true))):=by have:=HB1.out;rw[HGe.out] at this;exact this.setCell leR _
     have hS2:(wr.setCell ⟨G,b,none⟩ (.bool true)).heap.size=wr.heap.size:=by simp
     have hneg:(⟨gc,oc+b*6,none⟩:Addr)≠⟨G,b,none⟩:=by intro e;injection e with e _ _;omega
     have q0:(wr.setCell ⟨G,b,none⟩ (.bool true)).cell? ⟨gc,oc+b*6,none⟩=some (.int .i64 _):=(World.cell?_setCell_other _ _ _ _ (by intro e;injection e with e _ _;omega)).trans e0
     have q1:(wr.setCell ⟨G,b,none⟩ (.bool true)).cell? ⟨gc,oc+b*6+1,none⟩=some (.int .i64 _):=(World.cell?_setCell_other _ _ _ _ (by intro e;injection e with e _ _;omega)).trans e1
     have q2:(wr.setCell ⟨G,b,none⟩ (.bool true)).cell? ⟨gc,oc+b*6+2,none⟩=some (.int .i64 _):=(World.cell?_setCell_other _ _ _ _ (by intro e;injection e with e _ _;omega)).trans e2
     have q3:(wr.setCell ⟨G,b,none⟩ (.bool true)).cell? ⟨gc,oc+b*6+3,none⟩=some (.int .i64 _):=(World.cell?_setCell_other _ _ _ _ (by intro e;injection e with e _ _;omega)).trans e3
     have q4:(wr.setCell ⟨G,b,none⟩ (.bool true)).cell? ⟨gc,oc+b*6+4,none⟩=some (.int .i64 _):=(World.cell?_setCell_other _ _ _ _ (by intro e;injection e with e _ _;omega)).trans e4
     have q5:(wr.setCell ⟨G,b,none⟩ (.bool true)).cell? ⟨gc,oc+b*6+5,none⟩=some (.int .i64 _):=(World.cell?_setCell_other _ _ _ _ (by intro e;injection e with e _ _;omega)).trans e5
     have HZ2:Hid ((out++[L.getD b dN])++(remB (elD ms r) L (gs.set b true)).foldl (insZ true) []=candD ms r L):=by
      show _=_
      rw[<-hz.out,HPK.out,List.append_assoc]
      rfl
     have hol2:ol+1<=k:=by
      have:=congrArg List.length HZ2.out
      rw[List.length_append,List.length_append,HOLE.out,List.length_singleton] at this
      have:=HCL.out
      omega
     have hbI:(b:Int)<(k:Int):=by omega
     have hb0:(0:Int)<=(b:Int):=by omega
     clear hrow hb h2 h3 h4 h5 HPK hz e0 e1 e2 e3 e4 e5 hneg HGO HOW HG1 HOr HB1 hb1r
     generalize L.getD b dN=y at *
     obtain⟨y0,y1,y2,y3,y4,y5⟩:=y
     simp only at q0 q1 q2 q3 q4 q5
     go_upto_region 15 with fail
     generalize wr.setCell ⟨G,b,none⟩ (.bool true)=w5 at *
     have hG5:G<w5.heap.size:=by omega
     clear gk gf hS2
     go_wp2_with (at_builtin;refine wpList_appR 45 48 _ Tryz.underlying45 info107 rfl (by decide) coin6 coin_one (w5.alloc (.cells #[.int .i64 y0,.int .i64 y1,.int .i64 y2,.int .i64 y3,.int .i64 y4,.int .i64 y5] 107)) rfl _ _ rfl (G+1) w5.heap.size 1 (.slice vo ol co) out ⟨y0,y1,y2,y3,y4,y5⟩ (by rfl) (by rfl) (HO2.out.alloc _) (vrow_new _ _ _) (by simp;omega) (by rw[HOLE.out];unfold maxLen;omega) (by rw[HOLE.out];omega) ?_;intro g' cap w6 hown6 hg6 _ _)
     have HGB:Hid _:=gb_trans (gb_alloc w5 (.cells #[.int .i64 y0,.int .i64 y1,.int .i64 y2,.int .i64 y3,.int .i64 y4,.int .i64 y5] 107) (Value.slice vo ol co).ownBlock) hg6
     have HNB:Hid (∀ q,(Value.slice vo ol co).ownBlock=some q->G+1<=q):=fun q hq=>(HO2.out.blk q hq).1
     clear hg6
     go_roundw
     case rel=>exact⟨gs.set b true,out++[⟨y0,y1,y2,y3,y4,y5⟩],hown6,HG2.out.gb HGB hG5 (fun e=>by have:=HNB.out G e.symm;omega),HZ2,HB2.out.trans (gb_to_below HGB (by omega) (fun q hq=>by have:=HNB.out q hq;omega)),by have:=HGB.out.size;omega⟩
     case measure=>simp[sliceLen];rw[HOLE.out];omega
def pfindZ (ps:List PayD) (k:Int):Int:=idxOf (fun p:PayD=>p.num== k) ps 0
theorem pFind_any (b o:Nat) (ao:OAd) (n c:Nat) (ps:List PayD) (k:Int) (w:World) (hp:w.cell? ⟨b,o,none⟩=some (.slice ao n c)) (hx:RecAt PayD.v w ao ps) (hn:ps.length=n) (hm:n<=1000000000000):
 Calls Tryz.prog 88 #[.pointer (some ⟨b,o,none⟩),.int .i64 k] w fun e w'=>e=.returned (.int .i64 (pfindZ ps k))/\Below w.heap.size w w':=by
 have HN:=hiD hn
 have HX:=hiD hx
 clear hn hx
 go_enter Tryz.func88,Tryz.ntmps88
 go_wp2
 go_loopw [12] (fun i wr=>∃ j:Nat,j<=n/\i=.int .i64 j/\Hid (idxOf (fun p:PayD=>p.num== k) (ps.drop j) j=pfindZ ps k)/\Below w.heap.size w wr) (fun i _=>n-(intOf i).toNat)
 case atStart=>exact⟨0,Nat.zero_le _,rfl,rfl,Below.refl _ _⟩
 case round=>
  obtain⟨j,hj,rfl,hz,hbl⟩:=hrel
  have hsz:=hbl.size
  by_cases hlt:j<n
  ·rcases HX.out with hnil|⟨g,off,rfl,hrow⟩
   ·have:=HN.out;rw[hnil] at this;simp at this;omega
   obtain⟨c0,c1,c2,c3,c4⟩:=payCells (hrow.grown hbl) j (by rw[HN.out];exact hlt)
   have HS:Hid _:=hz.out
   rw[idxOf_drop _ _ dP j j (by rw[HN.out];exact hlt)] at HS
   clear hrow
   generalize ps.getD j dP=y at c0 c1 c2 c3 c4 HS
   obtain⟨y0,y1,y2,y3,y4,y5,y6,y7,y8,y9,y10⟩:=y
   simp only at c0 c1 c2 c3 c4
   cases h1:(y0== k)
   ·go_wp2
    go_roundw
    case rel=>exact⟨j+1,by omega,by go_num,by show _=_;have:=HS.out;simp only[h1] at this;simpa using this,hbl.alloc hsz _⟩
    case measure=>simp[intOf];omega
   ·go_wp2
    go_ret
    exact⟨ret_int (by have:=HS.out;simp only[h1] at this;simpa using this),hbl.alloc hsz _⟩
  ·go_wp2
   go_ret
   refine⟨ret_int ?_,hbl⟩
   rw[<-hz.out,List.drop_of_length_le (by rw[HN.out];omega)]
   rfl
def hasCoinZ (xs:List Cel) (x:CoinD):Bool:=if findZ xs x.id x.pos<0 then false else((xs.getD (findZ xs x.id x.pos).toNat dC).to== x.tt&&(xs.getD (findZ xs x.id x.pos).toNat dC).val== x.val)
theorem hasCoin_any (b o:Nat) (ao:OAd) (n c:Nat) (xs:List Cel) (x:CoinD) (w:World) (hp:w.cell? ⟨b,o,none⟩=some (.slice ao n c)) (hx:CelsAt w ao xs) (hn:xs.length=n) (hm:n<=1000000):
 Calls Tryz.prog 144 #[.pointer (some ⟨b,o,none⟩),.agg #[.int .i64 x.id,.int .i64 x.pos,.int .i64 x.tt,.int .i64 x.val]] w fun e w'=>e=.returned (.bool (hasCoinZ xs x))/\Below w.heap.size w w':=by
 have HN:=hiD hn
 have HX:=hiD hx
 obtain⟨x0,x1,x2,x3,x4,x5⟩:=x
 simp only
 have HZ:Hid (hasCoinZ xs ⟨x0,x1,x2,x3,x4,x5⟩=if findZ xs x0 x1<0 then false else((xs.getD (findZ xs x0 x1).toNat dC).to== x2&&(xs.getD (findZ xs x0 x1).toNat dC).val== x3)):=rfl
 have hb0:Below w.heap.size w (w.alloc (.cells #[.int .i64 x0,.int .i64 x1,.int .i64 x2,.int .i64 x3] 209)):=(Below.refl _ _).alloc leR _
 have HP0:Hid ((w.alloc (.cells #[.int .i64 x0,.int .i64 x1,.int .i64 x2,.int .i64 x3] 209)).cell? ⟨b,o,none⟩=some (.slice ao n c)):=(hb0.cell (p:=⟨b,o,none⟩) (cell_lt hp)).trans hp
 have HX0:=hiD (hx.grown hb0)
 have d2:(w.alloc (.cells #[.int .i64 x0,.int .i64 x1,.int .i64 x2,.int .i64 x3] 209)).cell? ⟨w.heap.size,2,none⟩=some (.int .i64 x2):=by go_simp
 have d3:(w.alloc (.cells #[.int .i64 x0,.int .i64 x1,.int .i64 x2,.int .i64 x3] 209)).cell? ⟨w.heap.size,3,none⟩=some (.int .i64 x3):=by go_simp
 clear hn hx hp
 go_enter Tryz.func144,Tryz.ntmps144
 go_wp2_with fail
 refine(find_any b o ao n c xs x0 x1 _ HP0 HX0 HN hm).mono ?_
 rintro e w1 ⟨rfl,hb1⟩
 have e2:=(hb1.cell (p:=⟨w.heap.size,2,none⟩) (cell_lt d2)).trans d2
 have e3:=(hb1.cell (p:=⟨w.heap.size,3,none⟩) (cell_lt d3)).trans d3
 have hX1:w.heap.size<w1.heap.size:=cell_lt e2
 have hb01:Below w.heap.size w w1:=below_blk hb0 hb1
 have hp1:=(hb1.cell (p:=⟨b,o,none⟩) (cell_lt HP0.out)).trans HP0.out
 have HX1:=hiD (HX0.out.grown hb1)
 clear d2 d3 HP0 HX0 hb0 hb1
 rcases findZ_cases xs x0 x1 with hf|⟨j,hj,hf,_⟩
 ·rw[hf] at HZ ⊢
  go_wp2
  go_ret
  exact⟨ret_bool (by rw[HZ.out];rfl),hb01⟩
 ·rw[hf] at HZ ⊢
  rcases HX1.out with hnil|⟨g,off,rfl,hrow⟩
  ·rw[hnil] at hj;simp at hj
  obtain⟨c0,c1,c2,c3,c4,c5⟩:=celCells hrow j hj
  have hjn:j<n:=by rw[<-HN.out];exact hj
  clear hrow hj
  rw[if_neg (by omega),Int.toNat_natCast] at HZ
  generalize xs.getD j dC=y at c0 c1 c2 c3 c4 c5 HZ
  obtain⟨yid,ypos,yto,yval,ymade,yspent⟩:=y
  simp only at c0 c1 c2 c3 c4 c5 HZ
  have hsz:=hb01.size
  cases h1:(yto== x2)
  ·go_wp2
   go_ret
   exact⟨ret_bool (by rw[HZ.out,h1];rfl),hb01.alloc hsz _⟩
  ·cases h2:(yval== x3)
   ·go_wp2
    go_ret
    exact⟨ret_bool (by rw[HZ.out,h1,h2];rfl),hb01.alloc hsz _⟩
   ·go_wp2
    go_ret
    exact⟨ret_bool (by rw[HZ.out,h1,h2];rfl),hb01.alloc hsz _⟩
def hasAllZ (xs:List Cel) (cs:List CoinD):Bool:=!(cs.any fun x=>!hasCoinZ xs x)
theorem hasAll_any (b o:Nat) (ao:OAd) (n c:Nat) (xs:List Cel) (ac:OAd) (m d:Nat) (cs:List CoinD) (w:World) (hp:w.cell? ⟨b,o,none⟩=some (.slice ao n c)) (hx:CelsAt w ao xs) (hn:xs.length=n) (hm:n<=1000000) (hc:RecAt CoinD.l w ac cs) (hcn:cs.length=m) (hcm:m<=1000):
 Calls Tryz.prog 90 #[.pointer (some ⟨b,o,none⟩),.slice ac m d] w fun e w'=>e=.returned (.bool (hasAllZ xs cs))/\Below w.heap.size w w':=by
 have HN:=hiD hn
 have HCN:=hiD hcn
 have HC:=hiD hc
 have HPW:Hid (∀ wx,Below w.heap.size w wx->wx.cell? ⟨b,o,none⟩=some (.slice ao n c)/\CelsAt wx ao xs):=fun wx hb=>⟨(hb.cell (p:=⟨b,o,none⟩) (cell_lt hp)).trans hp,hx.grown hb⟩
 have HD:Hid (hasAllZ xs cs=!(cs.any fun x=>!hasCoinZ xs x)):=rfl
 clear hn hcn hc hp hx
 go_enter Tryz.func90,Tryz.ntmps90
 go_wp2
 go_loopw [9] (fun i wr=>∃ k:Nat,k<=m/\i=.int .i64 k/\Hid ((cs.take k).any (fun x=>!hasCoinZ xs x)=false)/\Below w.heap.size w wr) (fun i _=>m-(intOf i).toNat)
 case atStart=>exact⟨0,Nat.zero_le _,rfl,by show List.any _ _=false;simp,Below.refl _ _⟩
 case round=>
  obtain⟨k,hk,rfl,hany,hbl⟩:=hrel
  have hsz:=hbl.size
  by_cases hlt:k<m
  ·rcases HC.out with hnil|⟨g,off,rfl,hrow⟩
   ·have:=HCN.out;rw[hnil] at this;simp at this;omega
   obtain⟨c0,c1,c2,c3,c4,c5⟩:=coinCells (hrow.grown hbl) k (by rw[HCN.out];exact hlt)
   have HS:Hid _:=any_no (fun x:CoinD=>!hasCoinZ xs x) cs dN k (by rw[HCN.out];exact hlt) hany.out
   have HZ:Hid _:=any_yes (fun x:CoinD=>!hasCoinZ xs x) cs dN k (by rw[HCN.out];exact hlt)
   clear hrow
   generalize cs.getD k dN=y at c0 c1 c2 c3 c4 c5 HS HZ
   obtain⟨y0,y1,y2,y3,y4,y5⟩:=y
   simp only at c0 c1 c2 c3 c4 c5
   have hbA:=hbl.alloc hsz (.cells #[.int .i64 y0,.int .i64 y1,.int .i64 y2,.int .i64 y3,.int .i64 y4,.int .i64 y5] 107)
   have HPA:Hid _:=HPW.out _ hbA
   go_wp2_with fail
   refine(hasCoin_any b o ao n c xs ⟨y0,y1,y2,y3,y4,y5⟩ _ HPA.out.1 HPA.out.2 HN hm).mono ?_
   rintro e w2 ⟨rfl,hb2⟩
   have hb3:=hbA.trans (hb2.mono hbA.size)
   clear hb2 hbA HPA
   cases hv:hasCoinZ xs ⟨y0,y1,y2,y3,y4,y5⟩
   ·go_wp2
    go_ret
    exact⟨ret_bool (by rw[HD.out,HZ.out (by show(!hasCoinZ xs ⟨y0,y1,y2,y3,y4,y5⟩)=true;rw[hv];rfl)];rfl),hb3⟩
   ·go_wp2
    go_roundw
    case rel=>exact⟨k+1,by omega,by go_num,HS (by show(!hasCoinZ xs ⟨y0,y1,y2,y3,y4,y5⟩)=false;rw[hv];rfl),hb3⟩
    case measure=>simp[intOf];omega
  ·go_wp2
   go_ret
   exact⟨ret_bool (by rw[HD.out,<-any_done _ cs m HCN.out k (by omega) hany.out];rfl),hbl⟩
def anySealZ (ks:LII) (cs:List CoinD):Bool:=cs.any fun x=>usedB ks (x.br,x.ix)
theorem anySealed_any (b o:Nat) (ao:OAd) (n c:Nat) (ks:LII) (ac:OAd) (m d:Nat) (cs:List CoinD) (w:World) (hp:w.cell? ⟨b,o+1,none⟩=some (.slice ao n c)) (hx:RecAt kV w ao ks) (hn:ks.length=n) (hm:n<=9007199254740992) (hc:RecAt CoinD.l w ac cs) (hcn:cs.length=m) (hcm:m<=1000):
 Calls Tryz.prog 91 #[.pointer (some ⟨b,o,none⟩),.slice ac m d] w fun e w'=>e=.returned (.bool (anySealZ ks cs))/\Below w.heap.size w w':=by
 have HN:=hiD hn
 have HCN:=hiD hcn
 have HC:=hiD hc
 have HPW:Hid (∀ wx,Below w.heap.size w wx->wx.cell? ⟨b,o+1,none⟩=some (.slice ao n c)/\RecAt kV wx ao ks):=fun wx hb=>⟨(hb.cell (p:=⟨b,o+1,none⟩) (cell_lt hp)).trans hp,hx.grown hb⟩
 clear hn hcn hc hp hx
 go_enter Tryz.func91,Tryz.ntmps91
 go_wp2
 go_loopw [10] (fun i wr=>∃ k:Nat,k<=m/\i=.int .i64 k/\Hid ((cs.take k).any (fun x=>usedB ks (x.br,x.ix))=false)/\Below w.heap.size w wr) (fun i _=>m-(intOf i).toNat)
 case atStart=>exact⟨0,Nat.zero_le _,rfl,by show List.any _ _=false;simp,Below.refl _ _⟩
 case round=>
  obtain⟨k,hk,rfl,hany,hbl⟩:=hrel
  have hsz:=hbl.size
  by_cases hlt:k<m
  ·rcases HC.out with hnil|⟨g,off,rfl,hrow⟩
   ·have:=HCN.out;rw[hnil] at this;simp at this;omega
   obtain⟨c0,c1,c2,c3,c4,c5⟩:=coinCells (hrow.grown hbl) k (by rw[HCN.out];exact hlt)
   have HS:Hid _:=any_no (fun x:CoinD=>usedB ks (x.br,x.ix)) cs dN k (by rw[HCN.out];exact hlt) hany.out
   have HZ:Hid _:=any_yes (fun x:CoinD=>usedB ks (x.br,x.ix)) cs dN k (by rw[HCN.out];exact hlt)
   clear hrow
   generalize cs.getD k dN=y at c0 c1 c2 c3 c4 c5 HS HZ
   obtain⟨y0,y1,y2,y3,y4,y5⟩:=y
   simp only at c0 c1 c2 c3 c4 c5
   have hbA:=hbl.alloc hsz (.cells #[.int .i64 y0,.int .i64 y1,.int .i64 y2,.int .i64 y3,.int .i64 y4,.int .i64 y5] 107)
   go_wp2_with fail
   refine(keyOf_any ⟨y0,y1,y2,y3,y4,y5⟩ _).mono ?_
   rintro e w2 ⟨rfl,hb2⟩
   simp only
   have hb3:=hbA.trans (hb2.mono hbA.size)
   have hb4:=hb3.alloc hb3.size (.cells #[.int .i64 y4,.int .i64 y5] 117)
   have HPA:Hid _:=HPW.out _ hb4
   clear hb2 hbA hb3
   go_wp2_with fail
   refine(hasSealed_any b o ao n c ks y4 y5 _ HPA.out.1 HPA.out.2 HN hm).mono ?_
   rintro e w5 ⟨rfl,hb5⟩
   have hb6:=hb4.trans (hb5.mono hb4.size)
   clear hb5 HPA hb4
   cases hv:usedB ks (y4,y5)
   ·go_wp2
    go_roundw
    case rel=>exact⟨k+1,by omega,by go_num,HS hv,hb6⟩
    case measure=>simp[intOf];omega
   ·go_wp2
    go_ret
    exact⟨ret_bool (HZ hv).symm,hb6⟩
  ·go_wp2
   go_ret
   exact⟨ret_bool (any_done _ cs m HCN k (by omega) hany.out),hbl⟩
end
end Go.Proofs.YtffgpepngcnjeabGreat
