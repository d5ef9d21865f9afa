import Derived.Deep.DeepCutAuto
import Derived.Test.YtffgpepngcnjeabGreatSag
namespace Go.Proofs.YtffgpepngcnjeabGreat
set_option maxRecDepth 100000
set_option maxHeartbeats 8000000
section
open Go.RowKit
variable {w wa w2 wr:World} {b off e k base o n c g B T ln:Nat} {v x a1 a2:Value} {ob:Obj} {row:Option Nat} {ao:OAd}
structure CoinD where
 id:Int
 pos:Int
 tt:Int
 val:Int
 br:Int
 ix:Int
def dN:CoinD:=⟨0,0,0,0,0,0⟩
def CoinD.l (x:CoinD):List Value:=[.int .i64 x.id,.int .i64 x.pos,.int .i64 x.tt,.int .i64 x.val,.int .i64 x.br,.int .i64 x.ix]
theorem coin6 (x:CoinD):x.l.length=6:=rfl
theorem coin_one (x:CoinD):∀ u∈x.l,u.oneCell'=true:=by
 intro u hu
 simp[CoinD.l] at hu
 rcases hu with rfl|rfl|rfl|rfl|rfl|rfl<;>rfl
theorem info107:(Tryz.prog.info? 107).map (fun i=>(i.zero,i.size,i.bytes))=some (some (.agg #[.int .i64 0,.int .i64 0,.int .i64 0,.int .i64 0,.int .i64 0,.int .i64 0]),6,48):=by kernel_rfl
structure CoinCells (w:World) (b off:Nat) (x:CoinD):Prop where
 c0:w.cell? ⟨b,off,none⟩=some (.int .i64 x.id)
 c1:w.cell? ⟨b,off+1,none⟩=some (.int .i64 x.pos)
 c2:w.cell? ⟨b,off+2,none⟩=some (.int .i64 x.tt)
 c3:w.cell? ⟨b,off+3,none⟩=some (.int .i64 x.val)
 c4:w.cell? ⟨b,off+4,none⟩=some (.int .i64 x.br)
 c5:w.cell? ⟨b,off+5,none⟩=some (.int .i64 x.ix)
theorem coinCells {xs:List CoinD} (h:VRow w b off (xs.flatMap CoinD.l)) (j:Nat) (hj:j<xs.length):CoinCells w b (off+j*6) (xs.getD j dN):=
 ⟨rcell coin6 dN h j hj 0 (by omega),rcell coin6 dN h j hj 1 (by omega),rcell coin6 dN h j hj 2 (by omega),rcell coin6 dN h j hj 3 (by omega),rcell coin6 dN h j hj 4 (by omega),rcell coin6 dN h j hj 5 (by omega)⟩
def aheadZ (a b:CoinD):Bool:=if a.id=b.id then decide (a.pos<b.pos) else decide (a.id<b.id)
abbrev coinV (x:CoinD):Value:=.agg #[.int .i64 x.id,.int .i64 x.pos,.int .i64 x.tt,.int .i64 x.val,.int .i64 x.br,.int .i64 x.ix]
theorem OwnRec.drew {α:Type} {f:α->List Value} {xs:List α} (h:OwnRec f e k w base v xs):OwnRec f e k w.drew base v xs:=h
theorem VRow.drew {l:List Value} (h:VRow w b off l):VRow w.drew b off l:=h
theorem keepO (hg:((wa.alloc ob).drew).grownBy w2 row) (c1:wa.cell? ⟨b,o,none⟩=some x) (hb:some b≠row):w2.cell? ⟨b,o,none⟩=some x:=by
 have hbl:Below wa.heap.size wa (wa.alloc ob):=(Below.refl _ _).alloc leR _
 exact gb_cell hg ((hbl.cell (p:=⟨b,o,none⟩) (cell_lt c1)).trans c1) hb
theorem keepF {x:Bool} (hg:((wa.alloc ob).drew).grownBy w2 row) (c1:wa.frozen? ⟨b,o,none⟩=x) (hl:b<wa.heap.size) (hb:some b≠row):w2.frozen? ⟨b,o,none⟩=x:=by
 have hbl:Below wa.heap.size wa (wa.alloc ob):=(Below.refl _ _).alloc leR _
 have h1:((wa.alloc ob).drew).frozen? ⟨b,o,none⟩=x:=(hbl.frozen (p:=⟨b,o,none⟩) hl).trans c1
 exact(gb_frozen hg (by rw[World.size_drew,World.size_alloc];omega) hb).trans h1
def aheadG (gf:Bool) (a b:CoinD):Bool:=if gf=true/\a.val≠b.val then decide (b.val<a.val) else aheadZ a b
theorem aheadG_no (a b:CoinD):aheadG false a b=aheadZ a b:=by unfold aheadG;rw[if_neg (by simp)]
theorem isAhead_any (S:Nat) (gf:Bool) (x y:CoinD) (w:World) (h0:w.cell? ⟨S,0,none⟩=some (.bool gf)):Calls Tryz.prog 196 #[.pointer (some ⟨S,0,none⟩),coinV x,coinV y] w fun e w'=>e=.returned (.bool (aheadG gf x y))/\Below w.heap.size w w':=by
 obtain⟨a0,a1,a2,a3,a4,a5⟩:=x
 obtain⟨b0,b1,b2,b3,b4,b5⟩:=y
 have bl:∀ o o',Below w.heap.size w ((w.alloc o).alloc o'):=fun o o'=>(bAl _ _).alloc (by simp) _
 have HB:Hid _:=bl
 clear bl
 have hS:S<w.heap.size:=cell_lt h0
 by_cases hg:gf=true/\a3≠b3
 ·have HE:Hid (aheadG gf ⟨a0,a1,a2,a3,a4,a5⟩ ⟨b0,b1,b2,b3,b4,b5⟩=decide (b3<a3)):=by show _=_;unfold aheadG;rw[if_pos hg]
  obtain⟨rfl,h3⟩:=hg
  have h':(a3== b3)=false:=by rw[beq_eq_false_iff_ne];exact h3
  have h'':(a3 !=b3)=true:=by simp[bne,h']
  go_enter Tryz.func196,Tryz.ntmps196
  go_wp2
  go_ret
  exact⟨ret_bool (by rw[HE.out]),HB _ _⟩
 ·have HE:Hid (aheadG gf ⟨a0,a1,a2,a3,a4,a5⟩ ⟨b0,b1,b2,b3,b4,b5⟩=aheadZ ⟨a0,a1,a2,a3,a4,a5⟩ ⟨b0,b1,b2,b3,b4,b5⟩):=by show _=_;unfold aheadG;rw[if_neg hg]
  have hgf:(gf&&(a3 !=b3))=false:=by
   cases gf
   ·rfl
   ·have h3:a3=b3:=Classical.byContradiction fun h=>hg ⟨rfl,h⟩
    simp[h3]
  clear hg
  by_cases h:a0=b0
  ·subst h
   have HE2:Hid (aheadZ ⟨a0,a1,a2,a3,a4,a5⟩ ⟨a0,b1,b2,b3,b4,b5⟩=decide (a1<b1)):=by show _=_;simp[aheadZ]
   cases gf
   ·go_enter Tryz.func196,Tryz.ntmps196
    go_wp2
    go_ret
    exact⟨ret_bool (by rw[HE.out,HE2.out]),HB _ _⟩
   ·simp only[Bool.true_and] at hgf
    go_enter Tryz.func196,Tryz.ntmps196
    go_wp2
    go_ret
    exact⟨ret_bool (by rw[HE.out,HE2.out]),HB _ _⟩
  ·have h':(a0== b0)=false:=by rw[beq_eq_false_iff_ne];exact h
   have h'':(a0 !=b0)=true:=by simp[bne,h']
   have HE2:Hid (aheadZ ⟨a0,a1,a2,a3,a4,a5⟩ ⟨b0,b1,b2,b3,b4,b5⟩=decide (a0<b0)):=by show _=_;simp[aheadZ,h]
   cases gf
   ·go_enter Tryz.func196,Tryz.ntmps196
    go_wp2
    go_ret
    exact⟨ret_bool (by rw[HE.out,HE2.out]),HB _ _⟩
   ·simp only[Bool.true_and] at hgf
    go_enter Tryz.func196,Tryz.ntmps196
    go_wp2
    go_ret
    exact⟨ret_bool (by rw[HE.out,HE2.out]),HB _ _⟩
def insI (gf:Bool) (cs:List CoinD) (x:CoinD):Nat->Nat
 |0=>0
 |i+1=>if aheadG gf x (cs.getD i dN)=true then insI gf cs x i else i+1
def insAt (cs:List CoinD) (x:CoinD) (i:Nat):List CoinD:=cs.take i++x::cs.drop i
def insZ (gf:Bool) (cs:List CoinD) (x:CoinD):List CoinD:=insAt cs x (insI gf cs x cs.length)
theorem insAt_len (cs:List CoinD) (x:CoinD) (i:Nat) (h:i<=cs.length):(insAt cs x i).length=cs.length+1:=by
 simp only[insAt,List.length_append,List.length_take,List.length_cons,List.length_drop]
 omega
theorem insAt_end (cs:List CoinD) (x:CoinD):insAt cs x cs.length=cs++[x]:=by simp[insAt]
theorem insAt_ahead (cs:List CoinD) (x:CoinD) (k:Nat) (h:k<cs.length):(insAt cs x (k+1)).getD k dN=cs.getD k dN:=by
 simp only[insAt,List.getD]
 rw[List.getElem?_append_left (by rw[List.length_take];omega),List.getElem?_take_of_lt (by omega)]
theorem insAt_step (cs:List CoinD) (x:CoinD) (k:Nat) (h:k<cs.length):((insAt cs x (k+1)).set (k+1) (cs.getD k dN)).set k x=insAt cs x k:=by
 apply List.ext_getElem?
 intro j
 have hl:=insAt_len cs x (k+1) (by omega)
 simp only[insAt] at hl ⊢
 by_cases h1:j=k
 ·subst h1
  rw[List.getElem?_set_self (by rw[List.length_set,hl];omega),List.getElem?_append_right (by rw[List.length_take];omega),List.length_take,show j-min j cs.length=0 by omega]
  rfl
 ·rw[List.getElem?_set_ne (by omega)]
  by_cases h2:j=k+1
  ·subst h2
   rw[List.getElem?_set_self (by rw[hl];omega),List.getElem?_append_right (by rw[List.length_take];omega),List.length_take,show k+1-min k cs.length=0+1 by omega,List.getElem?_cons_succ,List.getElem?_drop]
   simp only[List.getD,List.getElem?_eq_getElem h,Option.getD_some,Nat.add_zero]
  ·rw[List.getElem?_set_ne (by omega)]
   by_cases h3:j<k
   ·rw[List.getElem?_append_left (by rw[List.length_take];omega),List.getElem?_append_left (by rw[List.length_take];omega),List.getElem?_take_of_lt (by omega),List.getElem?_take_of_lt (by omega)]
   ·rw[List.getElem?_append_right (by rw[List.length_take];omega),List.getElem?_append_right (by rw[List.length_take];omega),List.length_take,List.length_take,show j-min (k+1) cs.length=(j-k-2)+1 by omega,show j-min k cs.length=(j-k-1)+1 by omega,List.getElem?_cons_succ,List.getElem?_cons_succ,List.getElem?_drop,List.getElem?_drop]
    congr 1
    omega
theorem own_some {α:Type} {f:α->List Value} (hf:∀ x,(f x).length=k) {xs:List α} (h:OwnRec f e k w base (.slice ao n c) xs) (hl:xs.length=n) (hn:0<n):
 ∃ g,ao=some ⟨g,0,none⟩/\base<=g/\g<w.heap.size/\VRow w g 0 (xs.flatMap f)/\(∀ j,w.frozen? ⟨g,j,none⟩=false):=by
 rcases h.slice hf with⟨_,rfl⟩|⟨g,c',e,h1,h2,h3,h4⟩
 ·simp at hl;omega
 ·injection e with e1 _ _
  exact⟨g,e1,h1,h2,h3,h4⟩
def set6 (w:World) (g p:Nat) (y:CoinD):World:=
 (((((w.setCell ⟨g,p,none⟩ (.int .i64 y.id)).setCell ⟨g,p+1,none⟩ (.int .i64 y.pos)).setCell ⟨g,p+2,none⟩ (.int .i64 y.tt)).setCell ⟨g,p+3,none⟩ (.int .i64 y.val)).setCell ⟨g,p+4,none⟩ (.int .i64 y.br)).setCell ⟨g,p+5,none⟩ (.int .i64 y.ix)
theorem own_set6 {xs:List CoinD} (h:OwnRec CoinD.l 107 6 w base (.slice (some ⟨g,0,none⟩) n c) xs) (hn:xs.length=n) (q:Nat) (hq:q<n) (y:CoinD):OwnRec CoinD.l 107 6 (set6 w g (q*6) y) base (.slice (some ⟨g,0,none⟩) n c) (xs.set q y):=by
 subst hn
 generalize hz:xs[q]=z
 obtain⟨z0,z1,z2,z3,z4,z5⟩:=z
 obtain⟨y0,y1,y2,y3,y4,y5⟩:=y
 have h0:=OwnRec.put coin6 h q 0 hq (by omega) (.int .i64 y0) ⟨y0,z1,z2,z3,z4,z5⟩ (by rw[hz];rfl)
 have e0:(xs.set q ⟨y0,z1,z2,z3,z4,z5⟩).length=xs.length:=List.length_set
 have h1:=OwnRec.put coin6 (xs:=xs.set q ⟨y0,z1,z2,z3,z4,z5⟩) (by rw[e0];exact h0) q 1 (by rw[e0];exact hq) (by omega) (.int .i64 y1) ⟨y0,y1,z2,z3,z4,z5⟩ (by rw[List.getElem_set_self];rfl)
 rw[List.set_set,List.length_set] at h1
 have h2:=OwnRec.put coin6 (xs:=xs.set q ⟨y0,y1,z2,z3,z4,z5⟩) (by rw[List.length_set];exact h1) q 2 (by rw[List.length_set];exact hq) (by omega) (.int .i64 y2) ⟨y0,y1,y2,z3,z4,z5⟩ (by rw[List.getElem_set_self];rfl)
 rw[List.set_set,List.length_set] at h2
 have h3:=OwnRec.put coin6 (xs:=xs.set q ⟨y0,y1,y2,z3,z4,z5⟩) (by rw[List.length_set];exact h2) q 3 (by rw[List.length_set];exact hq) (by omega) (.int .i64 y3) ⟨y0,y1,y2,y3,z4,z5⟩ (by rw[List.getElem_set_self];rfl)
 rw[List.set_set,List.length_set] at h3
 have h4:=OwnRec.put coin6 (xs:=xs.set q ⟨y0,y1,y2,y3,z4,z5⟩) (by rw[List.length_set];exact h3) q 4 (by rw[List.length_set];exact hq) (by omega) (.int .i64 y4) ⟨y0,y1,y2,y3,y4,z5⟩ (by rw[List.getElem_set_self];rfl)
 rw[List.set_set,List.length_set] at h4
 have h5:=OwnRec.put coin6 (xs:=xs.set q ⟨y0,y1,y2,y3,y4,z5⟩) (by rw[List.length_set];exact h4) q 5 (by rw[List.length_set];exact hq) (by omega) (.int .i64 y5) ⟨y0,y1,y2,y3,y4,y5⟩ (by rw[List.getElem_set_self];rfl)
 rw[List.set_set,List.length_set] at h5
 exact h5
theorem gb_set6 (w:World) (g p:Nat) (y:CoinD):w.grownBy (set6 w g p y) (some g):=
 gb_trans (gb_trans (gb_trans (gb_trans (gb_trans (gb_set w g p _) (gb_set _ g _ _)) (gb_set _ g _ _)) (gb_set _ g _ _)) (gb_set _ g _ _)) (gb_set _ g _ _)
def RCel.mark (x:RCel):RCel:=⟨x.id,x.pos,x.ad,x.val,true⟩
def markI (l:List RCel) (i:InD):List RCel:=if rfindZ l i.id i.pos<0 then l else l.set (rfindZ l i.id i.pos).toNat ((l.getD (rfindZ l i.id i.pos).toNat dR).mark)
def insR (l:List RCel) (ins:List InD):List RCel:=ins.foldl markI l
def outR (id:Int) (ys:LII) (k:Nat):List RCel:=(List.range k).map fun j:Nat=>⟨id,j,(ys.getD j (0,0)).1,(ys.getD j (0,0)).2,false⟩
def txR (l:List RCel) (t:TxD):List RCel:=insR l t.ins++outR t.id t.ys t.ys.length
def blkR (l:List RCel) (bl:List TxD):List RCel:=bl.foldl txR l
def cellsR (bls:List (List TxD)):List RCel:=bls.foldl blkR []
theorem markI_len (l:List RCel) (i:InD):(markI l i).length=l.length:=by
 unfold markI;split<;>simp
theorem insR_len (ins:List InD):∀ l:List RCel,(insR l ins).length=l.length:=by
 unfold insR
 induction ins with
 |nil=>intro l;rfl
 |cons x r ih=>intro l;rw[List.foldl_cons,ih,markI_len]
theorem outR_len (id:Int) (ys:LII) (k:Nat):(outR id ys k).length=k:=by simp[outR]
theorem txR_len (l:List RCel) (t:TxD):(txR l t).length=l.length+t.ys.length:=by simp[txR,insR_len,outR_len]
theorem foldl_take {α β:Type} (f:β->α->β) (a:β) (l:List α) (d:α) (k:Nat) (h:k<l.length):(l.take (k+1)).foldl f a=f ((l.take k).foldl f a) (l.getD k d):=by
 rw[List.take_succ_eq_append_getElem h,List.foldl_append]
 simp only[List.getD,List.getElem?_eq_getElem h,Option.getD_some]
 rfl
theorem outR_snoc (id:Int) (ys:LII) (k:Nat):outR id ys (k+1)=outR id ys k++[⟨id,k,(ys.getD k (0,0)).1,(ys.getD k (0,0)).2,false⟩]:=by
 unfold outR
 rw[List.range_succ,List.map_append]
 rfl
theorem rfindZ_cases (l:List RCel) (id pos:Int):rfindZ l id pos=-1\/∃ j,j<l.length/\rfindZ l id pos=(j:Int)/\isRC id pos (l.getD j dR)=true:=by
 rcases idxOf_cases (isRC id pos) dR l 0 with h|⟨j,h1,h2,h3⟩
 ·exact Or.inl h
 ·exact Or.inr ⟨j,h1,by rw[rfindZ,h2];simp,h3⟩
theorem info240:(Tryz.prog.info? 240).map (fun i=>(i.zero,i.size,i.bytes))=some (some (.agg #[.int .i64 0,.int .i64 0,.int .i64 0,.int .i64 0,.bool false]),5,40):=by kernel_rfl
abbrev OwnR (w:World) (base:Nat) (v:Value) (l:List RCel):Prop:=OwnRec RCel.v 240 5 w base v l
structure CI (w:World) (B T:Nat) (a1 a2:Value) (v:Value) (l:List RCel) (wr:World):Prop where
 own:OwnR wr B v l
 bel:Below B w wr
 t1:wr.cell? ⟨T,1,none⟩=some a1
 t2:wr.cell? ⟨T,2,none⟩=some a2
 ne:∀ k,v.ownBlock=some k->k≠T
 bt:B<=T
theorem CI.drew {l:List RCel} (h:CI w B T a1 a2 v l wr):CI w B T a1 a2 v l wr.drew:=⟨h.own,h.bel.drew,h.t1,h.t2,h.ne,h.bt⟩
theorem CI.mark {l:List RCel} (h:CI w B T a1 a2 (.slice (some ⟨g,0,none⟩) ln c) l wr) (hl:l.length=ln) (q:Nat) (hq:q<ln):CI w B T a1 a2 (.slice (some ⟨g,0,none⟩) ln c) (l.set q ((l.getD q dR).mark)) (wr.setCell ⟨g,q*5+4,none⟩ (.bool true)):=by
 subst hl
 have hg:B<=g:=(h.own.blk g rfl).1
 have hT:g≠T:=h.ne g rfl
 have e:l.getD q dR=l[q]:=by simp[List.getD,hq]
 refine⟨?_,h.bel.setCell hg _,?_,?_,h.ne,h.bt⟩
 ·rw[e]
  exact OwnRec.put rc5 h.own q 4 hq (by omega) (.bool true) _ rfl
 ·exact(World.cell?_setCell_other _ _ _ _ (fun e=>hT (congrArg Addr.block e))).trans h.t1
 ·exact(World.cell?_setCell_other _ _ _ _ (fun e=>hT (congrArg Addr.block e))).trans h.t2
theorem CI.push {l:List RCel} {x:RCel} (h:CI w B T a1 a2 v l wa) (ho:OwnR w2 B (.slice (some ⟨g,0,none⟩) n c) (l++[x])) (hg:((wa.alloc ob).drew).grownBy w2 v.ownBlock) (hl:v.ownBlock=some g\/(wa.alloc ob).drew.heap.size<=g):CI w B T a1 a2 (.slice (some ⟨g,0,none⟩) n c) (l++[x]) w2:=by
 have hT:some T≠v.ownBlock:=fun e=>h.ne T e.symm rfl
 have hTl:T<wa.heap.size:=cell_lt h.t1
 have hs:=h.bel.size
 refine⟨ho,?_,keepO hg h.t1 hT,keepO hg h.t2 hT,?_,h.bt⟩
 ·have hB:B<=wa.heap.size:=leT h.bt (Nat.le_of_lt hTl)
  exact(h.bel.trans (((Below.refl _ wa).alloc hB ob).drew)).trans (gb_to_below hg (by rw[World.size_drew,World.size_alloc];omega) (fun r hr=>(h.own.blk r hr).1))
 ·intro k hk e
  simp[Value.ownBlock] at hk
  subst hk
  rcases hl with hl|hl
  ·exact h.ne g hl e
  ·rw[World.size_drew,World.size_alloc] at hl;omega
def SmallB (bl:List TxD):Prop:=bl.length<=1000/\∀ t∈bl,t.ys.length<=1000/\t.ins.length<=1000
theorem insR_take (l:List RCel) (ins:List InD) (k:Nat) (h:k<ins.length):insR l (ins.take (k+1))=markI (insR l (ins.take k)) (ins.getD k dIn):=foldl_take markI l ins dIn k h
theorem blkR_take (l:List RCel) (bl:List TxD) (k:Nat) (h:k<bl.length):blkR l (bl.take (k+1))=txR (blkR l (bl.take k)) (bl.getD k dT):=foldl_take txR l bl dT k h
theorem cellsR_take (bls:List (List TxD)) (k:Nat) (h:k<bls.length):cellsR (bls.take (k+1))=blkR (cellsR (bls.take k)) (bls.getD k []):=foldl_take blkR [] bls [] k h
theorem cells_any (N:NPr) (ao:OAd) (n c:Nat) (cs:List CbD) (bls:List (List TxD)) (w:World) (hx:ChnAt N w ao cs bls) (hn:bls.length=n) (hm:n<=1000) (hs:∀ i,i<n->SmallB (bls.getD i [])):
 Calls Tryz.prog 178 #[.slice ao n c] w fun e w'=>∃ v,e=.returned v/\OwnR w' w.heap.size v (cellsR bls)/\Below w.heap.size w w':=by
 have HN:Hid (bls.length=n):=hn
 have HX:Hid (ChnAt N w ao cs bls):=hx
 have HSm:Hid (∀ i,i<n->SmallB (bls.getD i [])):=hs
 clear hn hx hs
 generalize hB:w.heap.size=B
 have HB:Hid (w.heap.size=B):=hB
 clear hB
 go_enter Tryz.func178,Tryz.ntmps178
 go_wp2
 go_loopw [3,4] (fun v i wr=>∃ k:Nat,k<=n/\i=.int .i64 k/\Hid ((cellsR (bls.take k)).length<=k*1000000)/\OwnR wr B v (cellsR (bls.take k))/\Below B w wr) (fun _ i _=>n-(intOf i).toNat)
 case atStart=>exact⟨0,Nat.zero_le _,rfl,by show List.length _<=_;simp[cellsR],OwnRec.nil _ _ _ _ _,Below.refl _ _⟩
 case round=>
  obtain⟨k,hk,rfl,hlen,hown,hbl⟩:=hrel
  have hsz:=hbl.size
  rw[HB.out] at hsz
  by_cases hlt:k<n
  ·have hch:=HX.out.grown (by rw[HB.out];exact hbl)
   rcases hch.row with hnil|⟨g,off,rfl,hrow⟩
   ·have h1:=hch.len;rw[HN.out,hnil] at h1;simp at h1;omega
   have c0:=cb_cell hrow k (by rw[hch.len,HN.out];exact hlt)
   have hcB:g<B:=by
    rcases HX.out.row with hnil|⟨g',off',e',hrow'⟩
    ·have h1:=HX.out.len;rw[HN.out,hnil] at h1;simp at h1;omega
    ·cases e'
     have:=cell_lt (cb_cell hrow' k (by rw[HX.out.len,HN.out];exact hlt))
     rw[HB.out] at this
     exact this
   obtain⟨hblk,hble⟩:=HX.out.blk k (by rw[HN.out];exact hlt)
   obtain⟨hs1,hs2⟩:=HSm.out k hlt
   have HR:Hid _:=cellsR_take bls k (by rw[HN.out];exact hlt)
   clear hrow hch
   generalize bls.getD k []=bl at *
   generalize cs.getD k dCb=cb at *
   generalize cellsR (bls.take k)=l0 at *
   obtain⟨ca,cn,cc⟩:=cb
   simp only at c0 hblk hble
   have HBK:Hid (BlkAt N w ca bl):=hblk
   have HBL:Hid (bl.length=cn):=hble
   have HS2:Hid (∀ t∈bl,t.ys.length<=1000/\t.ins.length<=1000):=hs2
   rw[hble] at hs1
   clear hblk hble hs2
   have c0':w.cell? ⟨g,off+k,none⟩=some (.slice ca cn cc):=by rw[<-hbl.cell (p:=⟨g,off+k,none⟩) hcB];exact c0
   have HC0:Hid (w.cell? ⟨g,off+k,none⟩=some (.slice ca cn cc)):=c0'
   clear c0'
   have e1:(0:Int)<=(k:Int):=by omega
   have e2:(k:Int)<(n:Int):=by omega
   obtain⟨wo,rfl⟩:∃ wo:World,wo=wr:=⟨_,rfl⟩
   go_wp2
   go_loopw [3,5] (fun v i wr=>∃ j:Nat,j<=cn/\i=.int .i64 j/\Hid ((blkR l0 (bl.take j)).length<=k*1000000+j*1000)/\OwnR wr B v (blkR l0 (bl.take j))/\Below B w wr) (fun _ i _=>cn-(intOf i).toNat)
   case atStart=>exact⟨0,Nat.zero_le _,rfl,by show List.length _<=_;simpa [blkR] using hlen.out,hown,hbl⟩
   case round=>
    clear hown hbl hsz c0
    obtain⟨j,hj,rfl,hlen2,hown,hbl⟩:=hrel
    have hsz:=hbl.size
    rw[HB.out] at hsz
    have c0:=(hbl.cell (p:=⟨g,off+k,none⟩) hcB).trans HC0.out
    by_cases hjt:j<cn
    ·have hblk2:=HBK.out.fr (Fr.of_below (by rw[HB.out];exact hbl) (fun _=>False)) (fun _ _ h=>h)
     rcases hblk2.row with hnil|⟨g2,off2,rfl,hrow2⟩
     ·have h1:=HBL.out;rw[hnil] at h1;simp at h1;omega
     obtain⟨t0,t1,t2⟩:=txCells hrow2 j (by rw[HBL.out];exact hjt)
     have hok:=HBK.out.ok _ (getD_mem bl dT j (by rw[HBL.out];exact hjt))
     obtain⟨hyl,hzl⟩:=HS2.out _ (getD_mem bl dT j (by rw[HBL.out];exact hjt))
     have HR2:Hid _:=blkR_take l0 bl j (by rw[HBL.out];exact hjt)
     clear hrow2 hblk2
     generalize bl.getD j dT=y at t0 t1 t2 hok HR2 hyl hzl
     generalize blkR l0 (bl.take j)=l1 at *
     obtain⟨yt,yai,yn,yc,yap,ym,yd,yins,yys⟩:=y
     simp only[txR,TxD.id] at t0 t1 t2 HR2 hyl hzl
     have HOK:Hid (TxOk N w ⟨yt,yai,yn,yc,yap,ym,yd,yins,yys⟩):=hok
     have HYL:Hid (yys.length=ym):=hok.ol
     have HIL:Hid (yins.length=yn):=hok.il
     rw[hok.ol] at hyl
     rw[hok.il] at hzl
     clear hok
     have e3:(0:Int)<=(j:Int):=by omega
     have e4:(j:Int)<(cn:Int):=by omega
     have hb4:=hbl.alloc hsz (.cells #[.int .i64 yt,.slice yai yn yc,.slice yap ym yd] 35)
     have ho4:=hown.alloc (.cells #[.int .i64 yt,.slice yai yn yc,.slice yap ym yd] 35)
     have x1:(wr.alloc (.cells #[.int .i64 yt,.slice yai yn yc,.slice yap ym yd] 35)).cell? ⟨wr.heap.size,1,none⟩=some (.slice yai yn yc):=by rw[World.cell?_alloc_new];rfl
     have x2:(wr.alloc (.cells #[.int .i64 yt,.slice yai yn yc,.slice yap ym yd] 35)).cell? ⟨wr.heap.size,2,none⟩=some (.slice yap ym yd):=by rw[World.cell?_alloc_new];rfl
     have hne:∀ q,u3.ownBlock=some q->q≠wr.heap.size:=fun q hq e=>by have:=(hown.blk q hq).2;omega
     go_wp2_with fail
     generalize wr.alloc (.cells #[.int .i64 yt,.slice yai yn yc,.slice yap ym yd] 35)=w4 at *
     generalize hTe:wr.heap.size=T at *
     have hci:CI w B T (.slice yai yn yc) (.slice yap ym yd) u3 l1 w4:=⟨ho4,hb4,x1,x2,hne,hsz⟩
     clear hTe t0 t1 t2 c0 hown hbl ho4 hb4 x1 x2 hne hsz
     have hokw:=HOK.out.fr (Fr.of_below (by rw[HB.out];exact hci.bel) (fun _=>False)) (fun _ _ h=>h)
     refine(rId_any yt yai yn yc yap ym yd yins yys _ hokw.ins hokw.il hokw.outs hokw.ol).mono ?_
     rintro e w5 ⟨rfl,hb5⟩
     generalize idZ yt yins yys=zid at *
     have HCI:Hid (CI w B T (.slice yai yn yc) (.slice yap ym yd) u3 l1 w5):=⟨hci.own.grown hb5,hci.bel.trans (hb5.mono (leT hci.bt (Nat.le_of_lt (cell_lt hci.t1)))),(hb5.cell (p:=⟨T,1,none⟩) (cell_lt hci.t1)).trans hci.t1,(hb5.cell (p:=⟨T,2,none⟩) (cell_lt hci.t2)).trans hci.t2,hci.ne,hci.bt⟩
     clear hci hb5 hokw
     obtain⟨av,cv,rfl,_⟩:=OwnRec.at rc5 HCI.out.own
     have hl1:=hlen2.out
     have HLL:Hid (∀ q,(insR l1 q).length=l1.length):=fun q=>insR_len q l1
     generalize l1.length=ln at *
     go_wp2
     go_loopw [8] (fun i wr=>∃ q:Nat,q<=yn/\i=.int .i64 q/\CI w B T (.slice yai yn yc) (.slice yap ym yd) (.slice av ln cv) (insR l1 (yins.take q)) wr) (fun i _=>yn-(intOf i).toNat)
     case atStart=>exact⟨0,Nat.zero_le _,rfl,HCI.out⟩
     case round=>
      obtain⟨q,hq,rfl,hci⟩:=hrel
      have x1:=hci.t1
      have x2:=hci.t2
      by_cases hqt:q<yn
      ·rcases HOK.out.ins with hnil|⟨gi,oi,hai,hirow⟩
       ·have h1:=HIL.out;simp only at hnil;rw[hnil] at h1;simp at h1;omega
       simp only at hai hirow
       subst hai
       obtain⟨⟨i0,i1,_⟩,_⟩:=hirow q (by rw[HIL.out];exact hqt)
       have j0:=(hci.bel.cell (p:=⟨gi,oi+q*3,none⟩) (by rw[<-HB.out];exact cell_lt i0)).trans i0
       have j1:=(hci.bel.cell (p:=⟨gi,oi+q*3+1,none⟩) (by rw[<-HB.out];exact cell_lt i1)).trans i1
       have HR3:Hid _:=insR_take l1 yins q (by rw[HIL.out];exact hqt)
       have HL2:Hid ((insR l1 (yins.take q)).length=ln):=HLL.out _
       clear i0 i1 hirow
       generalize yins.getD q dIn=z at j0 j1 HR3
       generalize insR l1 (yins.take q)=l2 at *
       obtain⟨aid,apos,aao,an,ac,al⟩:=z
       simp only at j0 j1
       obtain⟨av',cv',ev,hat⟩:=OwnRec.at rc5 hci.own
       injection ev with ev1 ev2 ev3
       subst ev1
       clear ev2 ev3
       have HAT:Hid (RecAt RCel.v wr.drew av l2):=hat
       have HCI2:Hid (CI w B T (.slice (some ⟨gi,oi,none⟩) yn yc) (.slice yap ym yd) (.slice av ln cv) l2 wr):=hci
       clear hat hci
       have e5:(0:Int)<=(q:Int):=by omega
       have e6:(q:Int)<(yn:Int):=by omega
       go_wp2
       go_region_held3 (fun w'=>w'.cell? ⟨T,1,none⟩=some (.slice (some ⟨gi,oi,none⟩) yn yc)/\w'.cell? ⟨gi,oi+q*3,none⟩=some (.int .i64 aid)/\w'.cell? ⟨gi,oi+q*3+1,none⟩=some (.int .i64 apos)) (first|assumption|go_keep) ((go_at_call 210;refine(rfind_any av ln cv l2 aid apos _ HAT.out HL2.out (by omega)).mono ?_;rintro e w7 ⟨rfl,rfl⟩))
       have HCI3:Hid (CI w B T (.slice (some ⟨gi,oi,none⟩) yn yc) (.slice yap ym yd) (.slice av ln cv) l2 wr.drew):=HCI2.out.drew
       clear HCI2 HAT x1 x2 j0 j1
       rcases rfindZ_cases l2 aid apos with hf|⟨pl,hpl,hf,_⟩
       ·rw[hf]
        have HR4:Hid (insR l1 (yins.take (q+1))=l2):=by
         show _=_
         rw[HR3.out,markI]
         simp only
         rw[hf,if_pos (by omega)]
        clear HR3 hf
        go_wp2
        go_roundw
        case rel=>exact⟨q+1,by omega,by go_num,by rw[HR4.out];exact HCI3.out⟩
        case measure=>simp[intOf];omega
       ·rw[hf]
        have HR4:Hid (insR l1 (yins.take (q+1))=l2.set pl ((l2.getD pl dR).mark)):=by
         show _=_
         rw[HR3.out,markI]
         simp only
         rw[hf,if_neg (by omega),show((pl:Int)).toNat=pl from Int.toNat_natCast pl]
        have hpl2:pl<ln:=by rw[<-HL2.out];exact hpl
        obtain⟨gl,hgl,_,_,hlrow,hlfz⟩:=own_some rc5 HCI3.out.own HL2.out (by omega)
        subst hgl
        obtain⟨_,_,_,_,m4⟩:=rcCells hlrow pl hpl
        have mf:=hlfz (pl*5+4)
        rw[Nat.zero_add] at m4
        generalize (l2.getD pl dR).sp=msp at m4
        clear HR3 hf hpl hlrow hlfz
        have e7:(0:Int)<=(pl:Int):=by omega
        have e8:(pl:Int)<(ln:Int):=by omega
        have e9:decide ((0:Int)<=(pl:Int))=true:=by rw[decide_eq_true_iff];exact e7
        go_wp2
        go_roundw
        case rel=>exact⟨q+1,by omega,by go_num,by rw[HR4.out];exact HCI3.out.mark HL2.out pl hpl2⟩
        case measure=>simp[intOf];omega
      ·have hqn:q=yn:=by omega
       subst hqn
       rw[List.take_of_length_le (by rw[HIL.out];omega)] at hci
       have HL3:Hid ((insR l1 yins).length=ln):=HLL.out _
       have HR5:Hid (blkR l0 (bl.take (j+1))=insR l1 yins++outR zid yys ym):=by show _=_;rw[HR2.out,HYL.out]
       clear HR2 HLL hqt
       generalize insR l1 yins=l3 at *
       have HCI2:Hid (CI w B T (.slice yai q yc) (.slice yap ym yd) (.slice av ln cv) l3 wr):=hci
       clear hci
       go_wp2
       go_loopw [3,10] (fun v i wr=>∃ r:Nat,r<=ym/\i=.int .i64 r/\CI w B T (.slice yai q yc) (.slice yap ym yd) v (l3++outR zid yys r) wr) (fun _ i _=>ym-(intOf i).toNat)
       case atStart=>exact⟨0,Nat.zero_le _,rfl,by simpa [outR] using HCI2.out⟩
       case round=>
        clear HCI2 x2 x1
        obtain⟨r,hr,rfl,hci⟩:=hrel
        have x2:=hci.t2
        by_cases hrt:r<ym
        ·rcases HOK.out.outs with hnil|⟨go,oo,hao,horow⟩
         ·have h1:=HYL.out;simp only at hnil;rw[hnil] at h1;simp at h1;omega
         simp only at hao horow
         subst hao
         obtain⟨o0,o1⟩:=horow r (by rw[HYL.out];exact hrt)
         have j0:=(hci.bel.cell (p:=⟨go,oo+r*2,none⟩) (by rw[<-HB.out];exact cell_lt o0)).trans o0
         have j1:=(hci.bel.cell (p:=⟨go,oo+r*2+1,none⟩) (by rw[<-HB.out];exact cell_lt o1)).trans o1
         have HAP:Hid (l3++outR zid yys (r+1)=(l3++outR zid yys r)++[⟨zid,r,(yys.getD r (0,0)).1,(yys.getD r (0,0)).2,false⟩]):=by show _=_;rw[outR_snoc,List.append_assoc]
         have HLN:Hid ((l3++outR zid yys r).length<=2000000000):=by show _<=_;rw[List.length_append,outR_len,HL3.out];omega
         clear o0 o1 horow
         generalize yys.getD r (0,0)=z at j0 j1 HAP
         generalize l3++outR zid yys r=l4 at *
         obtain⟨za,zv⟩:=z
         simp only at j0 j1 HAP
         have e5:(0:Int)<=(r:Int):=by omega
         have e6:(r:Int)<(ym:Int):=by omega
         have hBs:B<=wr.heap.size:=leT hci.bt (Nat.le_of_lt (cell_lt hci.t2))
         have HCI3:Hid (CI w B T (.slice yai q yc) (.slice (some ⟨go,oo,none⟩) ym yd) u3 l4 wr):=hci
         clear hci
         go_upto_region 19 with fail
         go_region_law (refine step_appR 233 40 _ Tryz.underlying233 info240 rfl (by decide) rc5 rc_one _ ?_ (.tmp 69) (.tmp 85) ?_ B wr.heap.size 1 u3 l4 ⟨zid,r,za,zv,false⟩ ?_ ?_ ?_ ?_ ?_ ?_ ?_ ?_;rfl;rfl;rfl;rfl;exact OwnRec.drew (HCI3.out.own.alloc _);exact VRow.drew (vrow_new wr _ _);(rw[World.size_drew,World.size_alloc];omega);(have:=HLN.out;unfold maxLen;omega);(have:=HLN.out;omega);intro g4 cap w8 hown8 hg8 hl8 hlt8)
         all_goals
          go_wp2
          go_roundw
          case rel=>exact⟨r+1,by omega,by go_num,by rw[HAP.out];exact HCI3.out.push hown8 hg8 hl8⟩
          case measure=>simp[intOf];omega
        ·have hrm:r=ym:=by omega
         subst hrm
         have HCI3:Hid (CI w B T (.slice yai q yc) (.slice yap r yd) u3 (l3++outR zid yys r) wr):=hci
         have HLN:Hid ((l3++outR zid yys r).length<=k*1000000+(j+1)*1000):=by show _<=_;rw[List.length_append,outR_len,HL3.out];omega
         clear hci
         go_wp2
         go_roundw
         case rel=>exact⟨j+1,by omega,by go_num,by rw[HR5.out];exact HLN,by rw[HR5.out];exact HCI3.out.own,HCI3.out.bel⟩
         case measure=>simp[intOf];omega
    ·have HE:Hid (blkR l0 (bl.take j)=blkR l0 bl):=by show _=_;rw[List.take_of_length_le (by rw[HBL.out];omega)]
     rw[HE.out,<-HR.out] at hown hlen2
     go_wp2
     go_roundw
     case rel=>exact⟨k+1,by omega,by go_num,by show _<=_;have:=hlen2.out;omega,hown,hbl⟩
     case measure=>simp[intOf];omega
  ·have HE:Hid (cellsR (bls.take k)=cellsR bls):=by show _=_;rw[List.take_of_length_le (by rw[HN.out];omega)]
   rw[HE.out] at hown
   go_wp2
   go_ret
   exact⟨_,rfl,hown,hbl⟩
end
end Go.Proofs.YtffgpepngcnjeabGreat
