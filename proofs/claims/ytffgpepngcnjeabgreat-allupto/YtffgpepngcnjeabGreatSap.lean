import Derived.Lib.SmallJoins
import Derived.Test.YtffgpepngcnjeabGreatSao
namespace Go.Proofs.YtffgpepngcnjeabGreat
section
open Go.ChangeShapes Go.WideShapes Go.ChangeAt Go.RowKit

def I64 (x:Int):Prop:=-9223372036854775808<=x/\x<=9223372036854775807
theorem tCells3:Tryz.prog.cellsOf 3=1:=by kernel_rfl
theorem tCells44:Tryz.prog.cellsOf 44=1:=by kernel_rfl
theorem tCells33:Tryz.prog.cellsOf 33=1:=by kernel_rfl
theorem tCells28:Tryz.prog.cellsOf 28=1:=by kernel_rfl
theorem tCells35:Tryz.prog.cellsOf 35=3:=by kernel_rfl
theorem tCells115:Tryz.prog.cellsOf 115=3:=by kernel_rfl
theorem tCells93:Tryz.prog.cellsOf 93=2:=by kernel_rfl
theorem tBytes3:Tryz.prog.bytesOf 3=8:=by kernel_rfl
theorem tBytes115:Tryz.prog.bytesOf 115=40:=by kernel_rfl
theorem tBytes93:Tryz.prog.bytesOf 93=16:=by kernel_rfl
theorem row_take {w:World} {b off:Nat} {l:List Int} (h:Row w b off l) (n:Nat):Row w b off (l.take n):=by
 intro j hj
 rw[List.length_take] at hj
 rw[h j (by omega)]
 simp only[List.getD]
 rw[List.getElem?_take_of_lt (by omega)]
theorem len3 {cs:List Value} (h:cs.length=3):∃ a b c,cs=[a,b,c]:=by
 match cs,h with
 |[a,b,c],_=>exact⟨a,b,c,rfl⟩
theorem len2c {cs:List Value} (h:cs.length=2):∃ a b,cs=[a,b]:=by
 match cs,h with
 |[a,b],_=>exact⟨a,b,rfl⟩
section
variable {H:Type} {enc:TypeId×Value->H} {W:World} {fuel:Nat} {cs:List Value} {x:DataW H×List MemPlace}
theorem open_num (h:DataW.trod enc Tryz.prog W 0 (fun _=>true) true fuel 3 cs=some x):∃ n:Int,cs=[.int .i64 n]/\I64 n:=by
 obtain⟨n,hcs,_,hw⟩:=DataW.trod_int Tryz.underlying3 h
 exact⟨n,hcs,bounds_i64 hw⟩
theorem open_seal (h:DataW.trod enc Tryz.prog W 0 (fun _=>true) true fuel 44 cs=some x) (hw:∀ k∈x.1.weights Tryz.prog 44,k<=reachBytes):
 ∃ ao n c l,cs=[.slice ao n c]/\IntsAt W ao l/\l.length=n/\n<=17592186044416/\(ao=none->c=0)/\∀ z∈l,I64 z:=by
 rcases open_ints Tryz.underlying44 Tryz.underlying3 tCells3 h with⟨hcs,_⟩|⟨a,len,cap,zs,hcs,_,hl,hm,hz,hx,hcell,hwz⟩
 ·exact⟨none,0,0,[],hcs,Or.inl rfl,rfl,by omega,fun _=>rfl,fun z hz=>by cases hz⟩
 ·have hz':zs.length=cap:=by simpa using hz
  have hr:(zs.take len).length*8+(zs.drop len).length*8<=reachBytes:=by
   have:=hw (((zs.take len).length+(zs.drop len).length)*8) (by
    rw[hx]
    simp only[DataW.weights,Tryz.underlying44,tBytes3,lits,List.length_map]
    exact List.mem_cons_self)
   omega
  rw[List.length_take,List.length_drop] at hr
  simp only[reachBytes] at hr
  refine⟨some a,len,cap,zs.take len,hcs,?_,by rw[List.length_take];omega,by omega,fun h=>(by cases h),fun z hz=>bounds_i64 (hwz z (List.mem_of_mem_take hz))⟩
  by_cases h0:zs.length=0
  ·have:zs=[]:=List.length_eq_zero_iff.1 h0
   subst this
   exact Or.inl (by simp)
  ·obtain⟨b,off,rfl,hc⟩:=ints_at hcell (by omega)
   exact Or.inr ⟨b,off,rfl,row_take hc _⟩
structure In64 (x:InD):Prop where
 id:I64 x.id
 pos:I64 x.pos
 l:∀ z∈x.l,I64 z
theorem open_in (h:DataW.trod enc Tryz.prog W 0 (fun _=>true) true fuel 115 cs=some x) (hw:∀ k∈x.1.weights Tryz.prog 115,k<=reachBytes):
 ∃ y:InD,cs=[.int .i64 y.id,.int .i64 y.pos,.slice y.ao y.n y.c]/\InOk W y/\In64 y:=by
 obtain⟨y0,y1,y2,n,hx,hlen,h0,h1,h2⟩:=Go.Deep.trod_struct3 Tryz.underlying115 h
 rw[tCells115] at hlen
 obtain⟨a,b,c,rfl⟩:=len3 hlen
 simp only[tCells3,tCells44,List.drop,List.take] at h0 h1 h2
 obtain⟨i,hi,bi⟩:=open_num h0
 obtain⟨p,hp,bp⟩:=open_num h1
 obtain⟨ao,m,cp,l,hs,hat,hl,hm,hnil,bl⟩:=open_seal h2 (fun k hk=>hw k (by
  rw[hx]
  simp only[DataW.weights,Tryz.underlying115,List.map,DataW.weightsEach,List.append_nil]
  exact List.mem_append_right _ (List.mem_append_right _ hk)))
 cases hi
 cases hp
 cases hs
 exact⟨⟨i,p,ao,m,cp,l⟩,rfl,⟨hat,hl,hm,hnil⟩,⟨bi,bp,bl⟩⟩
theorem open_out (h:DataW.trod enc Tryz.prog W 0 (fun _=>true) true fuel 93 cs=some x):∃ y:Int×Int,cs=[.int .i64 y.1,.int .i64 y.2]/\I64 y.1/\I64 y.2:=by
 obtain⟨y0,y1,n,_,hlen,h0,h1⟩:=trod_struct2 Tryz.underlying93 h
 rw[tCells93] at hlen
 obtain⟨a,b,rfl⟩:=len2c hlen
 simp only[tCells3,List.drop,List.take] at h0 h1
 obtain⟨i,hi,bi⟩:=open_num h0
 obtain⟨p,hp,bp⟩:=open_num h1
 cases hi
 cases hp
 exact⟨(i,p),rfl,bi,bp⟩
end
theorem choose_upto {α:Type} (d:α) {n:Nat} {p:Nat->α->Prop} (h:∀ i,i<n->∃ x,p i x):∃ l:List α,l.length=n/\∀ i,i<n->p i (l.getD i d):=by
  refine⟨(List.range n).map fun i=>if hi:i<n then Classical.choose (h i hi) else d,by simp,fun i hi=>?_⟩
  have e:((List.range n).map fun i=>if hi:i<n then Classical.choose (h i hi) else d).getD i d=Classical.choose (h i hi):=by
    simp[List.getD,hi]
  rw[e]
  exact Classical.choose_spec (h i hi)
theorem weights_in {H:Type} {P:Program} {e:TypeId} {l:List (DataW H)} {d:DataW H} (h:d∈l):∀ k∈d.weights P e,k∈DataW.weightsAll P e l:=by
  induction l with
  |nil=>cases h
  |cons y r ih=>
    intro k hk
    simp only[DataW.weightsAll]
    rcases List.mem_cons.1 h with e'|e'
    · subst e';exact List.mem_append_left _ hk
    · exact List.mem_append_right _ (ih e' k hk)
theorem cells_at {W:World} {a:Addr} {n:Nat} {cs:List Value} (h:W.cells? 0 a n=some cs) (hn:0<n):a.spot=none/\∀ i,i<n->W.cell? ⟨a.block,a.off+i,none⟩=cs[i]?:=by
  obtain⟨_,hl,hc⟩:=World.cells?_some h
  obtain⟨b,off,spot⟩:=a
  have hs:spot=none:=by
    have h0:=hc 0 hn
    have:(W.cell? ((⟨b,off,spot⟩:Addr).add 0))=some (cs[0]'(by omega)):=by rw[h0];exact List.getElem?_eq_getElem _
    simpa [Addr.add] using World.cell?_spot this
  subst hs
  exact⟨rfl,fun i hi=>by have:=hc i hi;rw[add_plain] at this;exact this⟩
section

variable {H:Type} {enc:TypeId×Value->H} {W:World} {fuel:Nat} {cs:List Value} {x:DataW H×List MemPlace}
theorem open_insL (h:DataW.trod enc Tryz.prog W 0 (fun _=>true) true fuel 33 cs=some x) (hw:∀ k∈x.1.weights Tryz.prog 33,k<=reachBytes):
 ∃ ao n c xs,cs=[.slice ao n c]/\InsAt W ao xs/\xs.length=n/\n<=3518437208883/\(ao=none->c=0)/\∀ j,j<n->In64 (xs.getD j dIn):=by
 rcases Go.Deep.open_slice Tryz.underlying33 h with⟨hcs,_⟩|⟨a,len,cap,m,n,D,Pl,hcs,_,hl,hm,hmm,hx,hel⟩
 ·exact⟨none,0,0,[],hcs,Or.inl rfl,rfl,by omega,fun _=>rfl,fun j hj=>by omega⟩
 ·have hmm':m=cap:=by simpa using hmm
  have hr:len*40<=reachBytes:=by
   have:=hw ((((List.range len).map D).length+((List.range (m-len)).map fun j=>D (len+j)).length)*40) (by
    rw[hx]
    simp only[DataW.weights,Tryz.underlying33,tBytes115]
    exact List.mem_cons_self)
   simp only[List.length_map,List.length_range] at this
   omega
  simp only[reachBytes] at hr
  rw[tCells115] at hel
  have each:∀ i,i<len->∃ y:InD,(W.cells? 0 (a.add (i*3)) 3=some [.int .i64 y.id,.int .i64 y.pos,.slice y.ao y.n y.c])/\InOk W y/\In64 y:=by
   intro i hi
   obtain⟨cs',hc,ht⟩:=hel i (by omega)
   obtain⟨y,rfl,hok,h64⟩:=open_in ht (fun k hk=>hw k (by
    rw[hx]
    simp only[DataW.weights,Tryz.underlying33]
    exact List.mem_cons_of_mem _ (List.mem_append_left _ (weights_in (List.mem_map.2 ⟨i,List.mem_range.2 hi,rfl⟩) k hk))))
   exact⟨y,hc,hok,h64⟩
  obtain⟨xs,hxl,hxs⟩:=choose_upto dIn each
  refine⟨some a,len,cap,xs,hcs,?_,hxl,by omega,fun h=>(by cases h),fun j hj=>(hxs j hj).2.2⟩
  by_cases h0:len=0
  ·exact Or.inl (List.length_eq_zero_iff.1 (by omega))
  ·have ha:a.spot=none:=by
    have:=(cells_at (hxs 0 (by omega)).1 (by omega)).1
    simpa [Addr.add] using this
   obtain⟨b,off,spot⟩:=a
   simp only at ha
   subst ha
   refine Or.inr ⟨b,off,rfl,fun j hj=>?_⟩
   obtain⟨hc,hok,_⟩:=hxs j (by omega)
   obtain⟨_,hcc⟩:=cells_at hc (by omega)
   rw[add_plain] at hcc
   simp only at hcc
   exact⟨⟨by simpa using hcc 0 (by omega),by simpa using hcc 1 (by omega),by simpa using hcc 2 (by omega)⟩,hok⟩
theorem open_outsL (h:DataW.trod enc Tryz.prog W 0 (fun _=>true) true fuel 28 cs=some x) (hw:∀ k∈x.1.weights Tryz.prog 28,k<=reachBytes):
 ∃ ao n c ys,cs=[.slice ao n c]/\OutsAt W ao ys/\ys.length=n/\n<=8796093022208/\(ao=none->c=0)/\∀ j,j<n->I64 (ys.getD j (0,0)).1/\I64 (ys.getD j (0,0)).2:=by
 rcases Go.Deep.open_slice Tryz.underlying28 h with⟨hcs,_⟩|⟨a,len,cap,m,n,D,Pl,hcs,_,hl,hm,hmm,hx,hel⟩
 ·exact⟨none,0,0,[],hcs,Or.inl rfl,rfl,by omega,fun _=>rfl,fun j hj=>by omega⟩
 ·have hmm':m=cap:=by simpa using hmm
  have hr:len*16<=reachBytes:=by
   have:=hw ((((List.range len).map D).length+((List.range (m-len)).map fun j=>D (len+j)).length)*16) (by
    rw[hx]
    simp only[DataW.weights,Tryz.underlying28,tBytes93]
    exact List.mem_cons_self)
   simp only[List.length_map,List.length_range] at this
   omega
  simp only[reachBytes] at hr
  rw[tCells93] at hel
  have each:∀ i,i<len->∃ y:Int×Int,(W.cells? 0 (a.add (i*2)) 2=some [.int .i64 y.1,.int .i64 y.2])/\I64 y.1/\I64 y.2:=by
   intro i hi
   obtain⟨cs',hc,ht⟩:=hel i (by omega)
   obtain⟨y,rfl,h64⟩:=open_out ht
   exact⟨y,hc,h64⟩
  obtain⟨ys,hyl,hys⟩:=choose_upto (0,0) each
  refine⟨some a,len,cap,ys,hcs,?_,hyl,by omega,fun h=>(by cases h),fun j hj=>(hys j hj).2⟩
  by_cases h0:len=0
  ·exact Or.inl (List.length_eq_zero_iff.1 (by omega))
  ·have ha:a.spot=none:=by
    have:=(cells_at (hys 0 (by omega)).1 (by omega)).1
    simpa [Addr.add] using this
   obtain⟨b,off,spot⟩:=a
   simp only at ha
   subst ha
   refine Or.inr ⟨b,off,rfl,fun j hj=>?_⟩
   obtain⟨hc,_⟩:=hys j (by omega)
   obtain⟨_,hcc⟩:=cells_at hc (by omega)
   rw[add_plain] at hcc
   simp only at hcc
   exact⟨by simpa using hcc 0 (by omega),by simpa using hcc 1 (by omega)⟩
end
end
section
open Go.ChangeShapes Go.WideShapes Go.ChangeAt Go.RowKit

theorem tCells60:Tryz.prog.cellsOf 60=1:=by kernel_rfl
theorem tCells82:Tryz.prog.cellsOf 82=6:=by kernel_rfl
theorem tBytes35:Tryz.prog.bytesOf 35=56:=by kernel_rfl
theorem tBytes82:Tryz.prog.bytesOf 82=80:=by kernel_rfl
theorem len6 {cs:List Value} (h:cs.length=6):∃ a b c d e f,cs=[a,b,c,d,e,f]:=by
 match cs,h with
 |[a,b,c,d,e,f],_=>exact⟨a,b,c,d,e,f,rfl⟩
abbrev inW (W:World) (q:Nat):Prop:=q<W.heap.size
section
variable {H:Type} {enc:TypeId×Value->H} {W:World} {fuel:Nat} {cs:List Value} {x:DataW H×List MemPlace}
theorem tx_places {t:Int} {ai:OAd} {n c:Nat} {ap:OAd} {m d:Nat} {xs:List InD} {ys:LII} (hx:InsAt W ai xs) (hxl:xs.length=n) (hy:OutsAt W ap ys) (hyl:ys.length=m):TxOk (inW W) W ⟨t,ai,n,c,ap,m,d,xs,ys⟩:=by
 refine⟨hx,hxl,hy,hyl,fun he a ha=>?_,fun he a ha=>?_,fun i hi he a ha=>?_⟩
 ·rcases hx with h|⟨b,off,e,hr⟩
  ·exact absurd h he
  ·simp only at ha
   rw[ha] at e
   cases e
   exact cell_lt (hr 0 (List.length_pos_iff.2 he)).1.c0
 ·rcases hy with h|⟨b,off,e,hr⟩
  ·exact absurd h he
  ·simp only at ha
   rw[ha] at e
   cases e
   exact cell_lt (hr 0 (List.length_pos_iff.2 he)).1
 ·rcases hx with h|⟨b,off,e,hr⟩
  ·simp only at hi
   rw[h] at hi
   simp at hi
  ·obtain⟨j,hj,e2⟩:=mem_getD dIn hi
   have hok:=(hr j hj).2
   rw[<-e2] at hok
   rcases hok.lies with h|⟨b2,off2,e3,hr2⟩
   ·exact absurd h he
   ·rw[ha] at e3
    cases e3
    exact hr2.lt he
theorem open_txc (h:DataW.trod enc Tryz.prog W 0 (fun _=>true) true fuel 35 cs=some x) (hw:∀ k∈x.1.weights Tryz.prog 35,k<=reachBytes):
 ∃ y:TxD,cs=y.v/\TxOk (inW W) W y/\TxH y:=by
 obtain⟨y0,y1,y2,n,hx,hlen,h0,h1,h2⟩:=Go.Deep.trod_struct3 Tryz.underlying35 h
 rw[tCells35] at hlen
 obtain⟨a,b,c,rfl⟩:=len3 hlen
 simp only[tCells3,tCells33,tCells28,List.drop,List.take] at h0 h1 h2
 obtain⟨t,ht,_⟩:=open_num h0
 obtain⟨ai,ni,ci,xs,hi,hxa,hxl,hxs,_,_⟩:=open_insL h1 (fun k hk=>hw k (by
  rw[hx]
  simp only[DataW.weights,Tryz.underlying35,List.map,DataW.weightsEach,List.append_nil]
  exact List.mem_append_right _ (List.mem_append_left _ hk)))
 obtain⟨ap,m,e,ys,ho,hya,hyl,hys,hnil,_⟩:=open_outsL h2 (fun k hk=>hw k (by
  rw[hx]
  simp only[DataW.weights,Tryz.underlying35,List.map,DataW.weightsEach,List.append_nil]
  exact List.mem_append_right _ (List.mem_append_right _ hk)))
 cases ht
 cases hi
 cases ho
 exact⟨⟨t,ai,ni,ci,ap,m,e,xs,ys⟩,rfl,tx_places hxa hxl hya hyl,⟨hxs,hys,hnil⟩⟩
theorem open_blk (h:DataW.trod enc Tryz.prog W 0 (fun _=>true) true fuel 60 cs=some x) (hw:∀ k∈x.1.weights Tryz.prog 60,k<=reachBytes):
 ∃ ab m d bl,cs=[.slice ab m d]/\BlkAt (inW W) W ab bl/\bl.length=m/\m<=d/\m<=2513169434915/\∀ t∈bl,TxH t:=by
 rcases Go.Deep.open_slice Tryz.underlying60 h with⟨hcs,_⟩|⟨a,len,cap,m,n,D,Pl,hcs,_,hl,hm,hmm,hx,hel⟩
 ·exact⟨none,0,0,[],hcs,⟨Or.inl rfl,fun h=>absurd rfl h,fun t ht=>by simp at ht⟩,rfl,leR,by omega,fun t ht=>by simp at ht⟩
 ·have hmm':m=cap:=by simpa using hmm
  have hr:len*56<=reachBytes:=by
   have:=hw ((((List.range len).map D).length+((List.range (m-len)).map fun j=>D (len+j)).length)*56) (by
    rw[hx]
    simp only[DataW.weights,Tryz.underlying60,tBytes35]
    exact List.mem_cons_self)
   simp only[List.length_map,List.length_range] at this
   omega
  simp only[reachBytes] at hr
  rw[tCells35] at hel
  have each:∀ i,i<len->∃ y:TxD,(W.cells? 0 (a.add (i*3)) 3=some y.v)/\TxOk (inW W) W y/\TxH y:=by
   intro i hi
   obtain⟨cs',hc,ht⟩:=hel i (by omega)
   obtain⟨y,rfl,hok,hsm⟩:=open_txc ht (fun k hk=>hw k (by
    rw[hx]
    simp only[DataW.weights,Tryz.underlying60]
    exact List.mem_cons_of_mem _ (List.mem_append_left _ (weights_in (List.mem_map.2 ⟨i,List.mem_range.2 hi,rfl⟩) k hk))))
   exact⟨y,hc,hok,hsm⟩
  obtain⟨xs,hxl,hxs⟩:=choose_upto dT each
  have hrow:RecAt TxD.v W (some a) xs:=by
   by_cases h0:len=0
   ·exact Or.inl (List.length_eq_zero_iff.1 (by omega))
   ·have ha:a.spot=none:=by
     have:=(cells_at (hxs 0 (by omega)).1 (by omega)).1
     simpa [Addr.add] using this
    obtain⟨b,off,spot⟩:=a
    simp only at ha
    subst ha
    refine Or.inr ⟨b,off,rfl,fun j hj=>?_⟩
    rw[rec_len TxD.v 3 tx3] at hj
    have hq:j / 3<xs.length:=by omega
    have hj3:j=j / 3*3+j % 3:=by omega
    obtain⟨hc,_⟩:=hxs (j / 3) (by omega)
    obtain⟨_,hcc⟩:=cells_at hc (by omega)
    rw[add_plain] at hcc
    simp only at hcc
    have h9:=hcc (j % 3) (by omega)
    have e9:=rec_get TxD.v 3 tx3 dT xs (j / 3) (j % 3) hq (by omega)
    rw[<-hj3] at e9
    rw[e9,show off+j=off+j / 3*3+j % 3 by omega,h9]
    have hl9:j % 3<(xs.getD (j / 3) dT).v.length:=by rw[tx3];omega
    simp only[List.getD]
    simp only[List.getD] at hl9
    rw[List.getElem?_eq_getElem hl9,Option.getD_some]
  refine⟨some a,len,cap,xs,hcs,⟨hrow,fun he a' ha'=>?_,fun t ht=>?_⟩,hxl,by omega,by omega,fun t ht=>?_⟩
  ·rcases hrow with h0|⟨b,off,e,hr'⟩
   ·exact absurd h0 he
   ·rw[ha'] at e
    cases e
    refine hr'.lt (fun e0=>he ?_)
    have:=rec_len TxD.v 3 tx3 xs
    rw[e0] at this
    exact List.length_eq_zero_iff.1 (by simp at this;omega)
  ·obtain⟨j,hj,e⟩:=mem_getD dT ht
   rw[e]
   exact(hxs j (by omega)).2.1
  ·obtain⟨j,hj,e⟩:=mem_getD dT ht
   rw[e]
   exact(hxs j (by omega)).2.2
theorem struct6 {P:Program} {w:World} {base:Nat} {spare:Bool} {held:Nat->Bool} {t:TypeId} {f0 f1 f2 f3 f4 f5:Field} {cs:List Value} (ht:P.underlying t=some (.struct #[f0,f1,f2,f3,f4,f5])) (h:DataW.trod enc P w base held spare fuel t cs=some x):
 ∃ y0 y1 y2 y3 y4 y5 n,x=(.agg [y0.1,y1.1,y2.1,y3.1,y4.1,y5.1],y0.2++(y1.2++(y2.2++(y3.2++(y4.2++y5.2)))))/\cs.length=P.cellsOf t/\DataW.trod enc P w base held spare n f0.type ((cs.drop f0.offset).take (P.cellsOf f0.type))=some y0/\
  DataW.trod enc P w base held spare n f1.type ((cs.drop f1.offset).take (P.cellsOf f1.type))=some y1/\DataW.trod enc P w base held spare n f2.type ((cs.drop f2.offset).take (P.cellsOf f2.type))=some y2/\
  DataW.trod enc P w base held spare n f3.type ((cs.drop f3.offset).take (P.cellsOf f3.type))=some y3/\DataW.trod enc P w base held spare n f4.type ((cs.drop f4.offset).take (P.cellsOf f4.type))=some y4/\DataW.trod enc P w base held spare n f5.type ((cs.drop f5.offset).take (P.cellsOf f5.type))=some y5:=by
 obtain⟨xs,n,_,rfl,hl,hlen,hf⟩:=DataW.trod_struct ht h
 match xs,hlen with
 |[y0,y1,y2,y3,y4,y5],_=>exact⟨y0,y1,y2,y3,y4,y5,n,by simp,hl,by simpa using hf 0 f0 rfl,by simpa using hf 1 f1 rfl,by simpa using hf 2 f2 rfl,by simpa using hf 3 f3 rfl,by simpa using hf 4 f4 rfl,by simpa using hf 5 f5 rfl⟩
theorem open_op (h:DataW.trod enc Tryz.prog W 0 (fun _=>true) true fuel 82 cs=some x) (hw:∀ k∈x.1.weights Tryz.prog 82,k<=reachBytes):
 ∃ y:OpD,cs=y.cs/\OpOk (inW W) W y:=by
 obtain⟨y0,y1,y2,y3,y4,y5,n,hx,hlen,h0,h1,h2,h3,h4,h5⟩:=struct6 Tryz.underlying82 h
 rw[tCells82] at hlen
 obtain⟨a,b,c,d,e,f,rfl⟩:=len6 hlen
 simp only[tCells3,tCells60,tCells28,List.drop,List.take] at h0 h1 h2 h3 h4 h5
 obtain⟨k0,e0,_⟩:=open_num h0
 obtain⟨k1,e1,_⟩:=open_num h1
 obtain⟨k2,e2,_⟩:=open_num h2
 obtain⟨k3,e3,_⟩:=open_num h3
 obtain⟨ab,bm,bd,bl,e4,b1,b2,b3,b4,b5⟩:=open_blk h4 (fun k hk=>hw k (by
  rw[hx]
  simp only[DataW.weights,Tryz.underlying82,List.map,DataW.weightsEach,List.append_nil]
  exact List.mem_append_right _ (List.mem_append_right _ (List.mem_append_right _ (List.mem_append_right _ (List.mem_append_left _ hk))))))
 obtain⟨ap,m,dd,ys,e5,q1,q2,q3,q4,_⟩:=open_outsL h5 (fun k hk=>hw k (by
  rw[hx]
  simp only[DataW.weights,Tryz.underlying82,List.map,DataW.weightsEach,List.append_nil]
  exact List.mem_append_right _ (List.mem_append_right _ (List.mem_append_right _ (List.mem_append_right _ (List.mem_append_right _ hk))))))
 cases e0
 cases e1
 cases e2
 cases e3
 cases e4
 cases e5
 refine⟨⟨k0,k1,k2,k3,ab,bm,bd,bl,ap,m,dd,ys⟩,rfl,⟨b1,b2,b3,b4,b5,q1,q2,fun e a ha=>?_,q3,q4⟩⟩
 rcases q1 with q1|⟨b,off,e6,hr⟩
 ·exact absurd q1 e
 ·rw[show ap=some a from ha] at e6
  cases e6
  exact cell_lt (hr 0 (List.length_pos_iff.2 e)).1
theorem open_script (h:DataW.trod enc Tryz.prog W 0 (fun _=>true) true fuel 22 cs=some x) (hw:∀ k∈x.1.weights Tryz.prog 22,k<=reachBytes):
 ∃ ao n c sc,cs=[.slice ao n c]/\Scr W.heap.size W ao sc/\sc.length=n/\n<=1759218604390:=by
 rcases Go.Deep.open_slice Tryz.underlying22 h with⟨hcs,_⟩|⟨a,len,cap,m,n,D,Pl,hcs,_,hl,hm,hmm,hx,hel⟩
 ·exact⟨none,0,0,[],hcs,⟨Or.inl rfl,fun h=>absurd rfl h,fun t ht=>by simp at ht⟩,rfl,by omega⟩
 ·have hmm':m=cap:=by simpa using hmm
  have hr:len*80<=reachBytes:=by
   have:=hw ((((List.range len).map D).length+((List.range (m-len)).map fun j=>D (len+j)).length)*80) (by
    rw[hx]
    simp only[DataW.weights,Tryz.underlying22,tBytes82]
    exact List.mem_cons_self)
   simp only[List.length_map,List.length_range] at this
   omega
  simp only[reachBytes] at hr
  rw[tCells82] at hel
  have each:∀ i,i<len->∃ y:OpD,(W.cells? 0 (a.add (i*6)) 6=some y.cs)/\OpOk (inW W) W y:=by
   intro i hi
   obtain⟨cs',hc,ht⟩:=hel i (by omega)
   obtain⟨y,rfl,hok⟩:=open_op ht (fun k hk=>hw k (by
    rw[hx]
    simp only[DataW.weights,Tryz.underlying22]
    exact List.mem_cons_of_mem _ (List.mem_append_left _ (weights_in (List.mem_map.2 ⟨i,List.mem_range.2 hi,rfl⟩) k hk))))
   exact⟨y,hc,hok⟩
  obtain⟨xs,hxl,hxs⟩:=choose_upto dO each
  have hrow:RecAt OpD.cs W (some a) xs:=by
   by_cases h0:len=0
   ·exact Or.inl (List.length_eq_zero_iff.1 (by omega))
   ·have ha:a.spot=none:=by
     have:=(cells_at (hxs 0 (by omega)).1 (by omega)).1
     simpa [Addr.add] using this
    obtain⟨b,off,spot⟩:=a
    simp only at ha
    subst ha
    refine Or.inr ⟨b,off,rfl,fun j hj=>?_⟩
    rw[rec_len OpD.cs 6 op6] at hj
    have hq:j / 6<xs.length:=by omega
    have hj3:j=j / 6*6+j % 6:=by omega
    obtain⟨hc,_⟩:=hxs (j / 6) (by omega)
    obtain⟨_,hcc⟩:=cells_at hc (by omega)
    rw[add_plain] at hcc
    simp only at hcc
    have h9:=hcc (j % 6) (by omega)
    have e9:=rec_get OpD.cs 6 op6 dO xs (j / 6) (j % 6) hq (by omega)
    rw[<-hj3] at e9
    rw[e9,show off+j=off+j / 6*6+j % 6 by omega,h9]
    have hl9:j % 6<(xs.getD (j / 6) dO).cs.length:=by rw[op6];omega
    simp only[List.getD]
    simp only[List.getD] at hl9
    rw[List.getElem?_eq_getElem hl9,Option.getD_some]
  refine⟨some a,len,cap,xs,hcs,⟨hrow,fun he a' ha'=>?_,fun t ht=>?_⟩,hxl,by omega⟩
  ·rcases hrow with h0|⟨b,off,e,hr'⟩
   ·exact absurd h0 he
   ·rw[ha'] at e
    cases e
    refine hr'.lt (fun e0=>he ?_)
    have:=rec_len OpD.cs 6 op6 xs
    rw[e0] at this
    exact List.length_eq_zero_iff.1 (by simp at this;omega)
  ·obtain⟨j,hj,e⟩:=mem_getD dO ht
   rw[e]
   exact(hxs j (by omega)).2
end
end
end Go.Proofs.YtffgpepngcnjeabGreat
