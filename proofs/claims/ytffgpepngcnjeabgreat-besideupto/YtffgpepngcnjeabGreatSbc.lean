import Derived.Test.YtffgpepngcnjeabGreatSbb
namespace Go.Proofs.YtffgpepngcnjeabGreat
set_option maxRecDepth 100000
set_option maxHeartbeats 4000000
section
open Go.RowKit
variable {N E:NPr} {w w1 w0 w' wr w8:World} {b o base g n c L B:Nat} {vl vs vs0 v a0 a1 a2:Value} {md nx s:Int} {ks:LII} {x:Int×Int}
def addKey (ks:LII) (x:CoinD):LII:=if usedB ks (x.br,x.ix)=true then ks else ks++[(x.br,x.ix)]
def addKeysZ (ks:LII) (cs:List CoinD):LII:=cs.foldl addKey ks
theorem addKeys_snoc (ks:LII) (cs:List CoinD) (k:Nat) (h:k<cs.length):addKeysZ ks (cs.take (k+1))=addKey (addKeysZ ks (cs.take k)) (cs.getD k dN):=by
 unfold addKeysZ
 rw[List.take_succ_eq_append_getElem h,List.foldl_append]
 simp[List.getD,h]
theorem addKey_len (ks:LII) (x:CoinD):(addKey ks x).length<=ks.length+1:=by
 unfold addKey
 split
 ·omega
 ·simp
theorem addKeys_len:∀ (cs:List CoinD) (ks:LII),(addKeysZ ks cs).length<=ks.length+cs.length
 |[],ks=>by simp[addKeysZ]
 |x::r,ks=>by
  have h1:=addKey_len ks x
  have h2:=addKeys_len r (addKey ks x)
  have e:addKeysZ ks (x::r)=addKeysZ (addKey ks x) r:=rfl
  rw[e,List.length_cons]
  omega
theorem LsAt.pushK {ps:List PayD} (h:LsAt N w b o base vl vs md nx ps ks) (hown:OwnRec kV 117 2 w1 base (.slice (some ⟨g,0,none⟩) n c) (ks++[x])) (hg:w.grownBy w1 vs.ownBlock) (hl:vs.ownBlock=some g\/w.heap.size<=g):
 LsAt N (w1.setCell ⟨b,o+1,none⟩ (.slice (some ⟨g,0,none⟩) n c)) b o base vl (.slice (some ⟨g,0,none⟩) n c) md nx ps (ks++[x])/\Fr (fun k=>k=b\/vs.ownBlock=some k) w (w1.setCell ⟨b,o+1,none⟩ (.slice (some ⟨g,0,none⟩) n c)):=by
 have hbl:=cell_lt h.c0
 have hvb:some b≠vs.ownBlock:=fun e=>by have:=(h.os.blk b e.symm).1;have:=h.nb;omega
 have hgb:=(hown.blk g rfl).1
 have hnb:=h.nb
 have hf:Fr (fun k=>k=b\/vs.ownBlock=some k) w (w1.setCell ⟨b,o+1,none⟩ (.slice (some ⟨g,0,none⟩) n c)):=(Fr.of_gb hg (fun k hk _=>Or.inr hk)).set b (o+1) _ (fun _=>Or.inl rfl)
 have hnE:∀ k,N k->¬(k=b\/vs.ownBlock=some k):=fun k hk e=>e.elim (h.nN k hk).2.1 (h.nN k hk).2.2.2
 refine⟨⟨so (gb_cell hg h.c0 hvb) (by omega),World.cell?_setCell_same _ _ _ (gb_cell hg h.c1 hvb),so (gb_cell hg h.c2 hvb) (by omega),so (gb_cell hg h.c3 hvb) (by omega),fun j=>by rw[World.frozen?_setCell];exact(gb_frozen hg hbl hvb).trans (h.fz j),hf.own h.ol (fun k hk e=>?_),hown.gb (gb_set w1 b (o+1) _) (fun k hk e=>by simp[Value.ownBlock] at hk;injection e with e;omega),fun p hp=>(h.ok p hp).fr hf hnE,h.nb,fun k hk e=>?_,fun k hk=>⟨ltL (h.nN k hk).1 hf.size,(h.nN k hk).2.1,(h.nN k hk).2.2.1,fun e=>?_⟩⟩,hf⟩
 ·rcases e with e|e
  ·have:=(h.ol.blk k hk).1;omega
  ·exact h.nl k hk e
 ·simp[Value.ownBlock] at e
  subst e
  rcases hl with h1|h1
  ·exact h.nl _ hk h1
  ·have:=(h.ol.blk _ hk).2;omega
 ·simp[Value.ownBlock] at e
  subst e
  rcases hl with h1|h1
  ·exact(h.nN _ hk).2.2.2 h1
  ·have:=(h.nN _ hk).1;omega
structure SlI (N:NPr) (b o base:Nat) (vl vs0:Value) (md nx:Int) (ps:List PayD) (w0:World) (vs:Value) (ks:LII) (w:World):Prop where
 ls:LsAt N w b o base vl vs md nx ps ks
 fr:Fr (fun q=>q=b\/vs0.ownBlock=some q) w0 w
 nw:∀ q,vs.ownBlock=some q->vs0.ownBlock=some q\/w0.heap.size<=q
 cl:∀ j v,j≠o+1->w0.cell? ⟨b,j,none⟩=some v->w.cell? ⟨b,j,none⟩=some v
theorem SlI.grown {ps:List PayD} (h:SlI N b o base vl vs0 md nx ps w0 vs ks w) (hb:Below w.heap.size w w'):SlI N b o base vl vs0 md nx ps w0 vs ks w':=
 ⟨h.ls.grown hb,h.fr.trans (Fr.of_below hb _),h.nw,fun j v hj hv=>(hb.cell (p:=⟨b,j,none⟩) (cell_lt (h.cl j v hj hv))).trans (h.cl j v hj hv)⟩
theorem SlI.push {ps:List PayD} (h:SlI N b o base vl vs0 md nx ps w0 vs ks w) (hown:OwnRec kV 117 2 w1 base (.slice (some ⟨g,0,none⟩) n c) (ks++[x])) (hg:w.grownBy w1 vs.ownBlock) (hl:vs.ownBlock=some g\/w.heap.size<=g):
 SlI N b o base vl vs0 md nx ps w0 (.slice (some ⟨g,0,none⟩) n c) (ks++[x]) (w1.setCell ⟨b,o+1,none⟩ (.slice (some ⟨g,0,none⟩) n c)):=by
 obtain⟨h1,h2⟩:=h.ls.pushK hown hg hl
 have hvb:some b≠vs.ownBlock:=fun e=>by have:=(h.ls.os.blk b e.symm).1;have:=h.ls.nb;omega
 refine⟨h1,⟨h2.os.trans h.fr.os,h2.tape.trans h.fr.tape,h2.output.trans h.fr.output,leT h.fr.size h2.size,fun k hk he=>(h2.block k (ltL hk h.fr.size) (fun e=>?_)).trans (h.fr.block k hk he)⟩,fun q hq=>?_,fun j v hj hv=>so (gb_cell hg (h.cl j v hj hv) hvb) (by omega)⟩
 ·rcases e with e|e
  ·exact he (Or.inl e)
  ·rcases h.nw k e with e2|e2
   ·exact he (Or.inr e2)
   ·omega
 ·simp[Value.ownBlock] at hq
  subst hq
  rcases hl with e|e
  ·exact h.nw _ e
  ·exact Or.inr (leT h.fr.size e)
theorem addSealed_any (N:NPr) (b o base:Nat) (vl vs:Value) (md nx:Int) (ps:List PayD) (ks:LII) (ac:OAd) (m d:Nat) (cs:List CoinD) (w:World) (hL:LsAt N w b o base vl vs md nx ps ks) (hbs:base<=w.heap.size) (hkl:ks.length<=20000000) (hc:RecAt CoinD.l w ac cs) (hcn:cs.length=m) (hcm:m<=1000) (hnc:cs≠[]->∀ a,ac=some a->N a.block):
 Calls Tryz.prog 92 #[.pointer (some ⟨b,o,none⟩),.slice ac m d] w fun e w'=>e=.returned (.tuple #[])/\∃ vs',SlI N b o base vl vs md nx ps w vs' (addKeysZ ks cs) w':=by
 have HCN:=hiD hcn
 have HI0:Hid (SlI N b o base vl vs md nx ps w vs ks w):=⟨hL,Fr.refl _ _,fun q hq=>Or.inl hq,fun j v _ hv=>hv⟩
 have HCW:Hid (∀ wx,Fr (fun q=>q=b\/vs.ownBlock=some q) w wx->RecAt CoinD.l wx ac cs):=fun wx hf=>rec_fr hf hc (fun e a ha e2=>e2.elim (hL.nN _ (hnc e a ha)).2.1 (hL.nN _ (hnc e a ha)).2.2.2)
 have HKL:Hid (∀ k,(addKeysZ ks (cs.take k)).length<=20001000):=fun k=>by
  have h1:=addKeys_len (cs.take k) ks
  have h2:(cs.take k).length<=cs.length:=by rw[List.length_take];omega
  omega
 clear hL hcn hc hnc
 go_enter Tryz.func92,Tryz.ntmps92
 go_wp2
 go_loopw [9] (fun i wr=>∃ (k:Nat) (v:Value),k<=m/\i=.int .i64 k/\Hid (SlI N b o base vl vs md nx ps w v (addKeysZ ks (cs.take k)) wr)) (fun i _=>m-(intOf i).toNat)
 case atStart=>exact⟨0,vs,Nat.zero_le _,rfl,HI0⟩
 case round=>
  obtain⟨k,v,hk,rfl,hi⟩:=hrel
  by_cases hlt:k<m
  ·rcases HCW.out wr hi.out.fr with hnil|⟨g,off,rfl,hrow⟩
   ·have:=HCN.out;rw[hnil] at this;simp at this;omega
   obtain⟨c0,c1,c2,c3,c4,c5⟩:=coinCells hrow k (by rw[HCN.out];exact hlt)
   have HSN:Hid (addKeysZ ks (cs.take (k+1))=addKey (addKeysZ ks (cs.take k)) (cs.getD k dN)):=addKeys_snoc ks cs k (by rw[HCN.out];exact hlt)
   have HLE:Hid ((addKeysZ ks (cs.take k)).length<=20001000):=HKL.out k
   clear hrow
   generalize addKeysZ ks (cs.take k)=kk at *
   generalize cs.getD k dN=y at c0 c1 c2 c3 c4 c5 HSN
   obtain⟨y0,y1,y2,y3,y4,y5⟩:=y
   simp only at c0 c1 c2 c3 c4 c5
   have hbA:Below wr.heap.size wr (wr.alloc (.cells #[.int .i64 y0,.int .i64 y1,.int .i64 y2,.int .i64 y3,.int .i64 y4,.int .i64 y5] 107)):=(Below.refl _ _).alloc leR _
   go_wp2_with fail
   refine(keyOf_any ⟨y0,y1,y2,y3,y4,y5⟩ _).mono ?_
   rintro e w2 ⟨rfl,hb2⟩
   simp only
   have hb3:=below_blk hbA hb2
   have hb4:=hb3.alloc hb3.size (.cells #[.int .i64 y4,.int .i64 y5] 117)
   have HI4:=hiD (hi.out.grown hb4)
   have k0:(w2.alloc (.cells #[.int .i64 y4,.int .i64 y5] 117)).cell? ⟨w2.heap.size,0,none⟩=some (.int .i64 y4):=by go_simp
   have k1:(w2.alloc (.cells #[.int .i64 y4,.int .i64 y5] 117)).cell? ⟨w2.heap.size,1,none⟩=some (.int .i64 y5):=by go_simp
   clear hb2 hbA hb3 hb4 c0 c1 c2 c3 c4 c5
   go_upto_region 4 with fail
   generalize w2.alloc (.cells #[.int .i64 y4,.int .i64 y5] 117)=w4 at *
   generalize w2.heap.size=K at *
   obtain⟨ao1,n1,er,hat⟩:=OwnRec.at kv2 HI4.out.ls.os
   subst er
   have HR4:=hiD hat
   have HC4:=hiD HI4.out.ls.c1
   clear hat
   go_wp2_with fail
   refine(hasSealed_any b o ao1 kk.length n1 kk y4 y5 _ HC4 HR4 rfl (by have:=HLE.out;omega)).mono ?_
   rintro e w5 ⟨rfl,hb5⟩
   have HI5:=hiD (HI4.out.grown hb5)
   have q0:=(hb5.cell (p:=⟨K,0,none⟩) (cell_lt k0)).trans k0
   have q1:=(hb5.cell (p:=⟨K,1,none⟩) (cell_lt k1)).trans k1
   clear hb5 k0 k1 HI4 HR4 HC4 hi
   have HAK:Hid (addKey kk ⟨y0,y1,y2,y3,y4,y5⟩=if usedB kk (y4,y5)=true then kk else kk++[(y4,y5)]):=rfl
   cases hv:usedB kk (y4,y5)
   ·rw[hv,if_neg (by simp)] at HAK
    have c1:=HI5.out.ls.c1
    have f1:=HI5.out.ls.fz (o+1)
    have hbl5:b<w5.heap.size:=cell_lt c1
    have hvb:some b≠(Value.slice ao1 kk.length n1).ownBlock:=fun e=>by have:=(HI5.out.ls.os.blk b e.symm).1;have:=HI5.out.ls.nb;omega
    have HOS:=hiD HI5.out.ls.os
    have hbs5:base<=w5.heap.size:=leT hbs HI5.out.fr.size
    have HFI:Hid (∀ (w1:World) (gl capl:Nat),OwnRec kV 117 2 w1 base (.slice (some ⟨gl,0,none⟩) (kk.length+1) capl) (kk++[(y4,y5)])->((w5.alloc (.cells #[.int .i64 y4,.int .i64 y5] 117)).drew).grownBy w1 (Value.slice ao1 kk.length n1).ownBlock->((Value.slice ao1 kk.length n1).ownBlock=some gl\/((w5.alloc (.cells #[.int .i64 y4,.int .i64 y5] 117)).drew).heap.size<=gl)->SlI N b o base vl vs md nx ps w (.slice (some ⟨gl,0,none⟩) (kk.length+1) capl) (kk++[(y4,y5)]) (w1.setCell ⟨b,o+1,none⟩ (.slice (some ⟨gl,0,none⟩) (kk.length+1) capl))):=fun w1 gl capl h1 h2 h3=>(HI5.out.grown ((bAl _ _).drew)).push h1 h2 h3
    clear HI5
    go_upto_region 5 with fail
    go_region_law (refine step_appR 36 16 _ Tryz.underlying36 info117 rfl (by decide) kv2 kv_one _ ?_ (.tmp 23) (.tmp 25) ?_ base w5.heap.size 1 (.slice ao1 kk.length n1) kk (y4,y5) ?_ ?_ ?_ ?_ ?_ ?_ ?_ ?_;rfl;rfl;rfl;rfl;exact OwnRec.drew (HOS.out.alloc _);exact VRow.drew (vrow_new w5 _ _);(rw[World.size_drew,World.size_alloc];omega);(have:=HLE.out;unfold maxLen;omega);(have:=HLE.out;omega);intro gl capl w1 hown1 hg1 hl1 hlt1;have r0:=keepO hg1 c1 hvb;have r1:=keepF hg1 f1 hbl5 hvb)
    all_goals
     have HF9:Hid _:=HFI.out w1 gl capl hown1 hg1 hl1
     go_wp2
     go_roundw
     case rel=>exact⟨k+1,_,by omega,by go_num,by rw[HSN.out,HAK.out];exact HF9⟩
     case measure=>simp[intOf];omega
   ·rw[hv,if_pos rfl] at HAK
    go_wp2
    go_roundw
    case rel=>exact⟨k+1,_,by omega,by go_num,by rw[HSN.out,HAK.out];exact HI5⟩
    case measure=>simp[intOf];omega
  ·have hfl:cs.take k=cs:=List.take_of_length_le (by rw[HCN.out];omega)
   rw[hfl] at hi
   go_wp2
   go_returns
   exact⟨rfl,v,hi.out⟩
theorem sealF_any (s b i id:Int) (w:World) (hk:Mk.isK s b i=true) (hm:Mk.isM id=true):
 Calls Tryz.prog 147 #[.int .i64 s,.int .i64 b,.int .i64 i,.int .i64 id] w fun e w'=>∃ B,e=.returned (.tuple #[.slice (some ⟨B,0,none⟩) 5 5,.int .i64 0])/\Row w' B 0 (Mk.sealL s b i id)/\Free w' B 0 5/\w.heap.size<=B/\Below w.heap.size w w':=by
 have hm':=(Mk.isM_iff id).1 hm
 have hmk:=mk5
 go_enter Tryz.func147,Tryz.ntmps147
 go_wp2_with (first|(go_at_call 126;refine(keyIs_any _ _ _ _).mono ?_;rintro e w' ⟨rfl,rfl⟩)|(go_at_call 104;refine(is_any _ _).mono ?_;rintro e w' ⟨rfl,rfl⟩)|(go_at_call 127;refine(secrets_any _ _ _ _ hk).mono ?_;rintro e w1 ⟨rfl,hb1⟩)|(go_at_call 150;refine(digits_any _ _ hm'.1 hm'.2).mono ?_;rintro e w2 ⟨rfl,hb2⟩))
 have hs1:=hb1.size
 have hs2:=hb2.size
 rw[World.size_alloc] at hs2
 have hinv:=seal_start (id:=id) hb1 hb2
 have HI:Hid _:=hinv
 clear hinv hb1 hb2 hmk
 generalize hB1:w1.heap.size=B1 at *
 generalize hB2:w2.heap.size=B2 at *
 clear hB1 hB2
 go_loopw [13] (fun v wr=>∃ k:Nat,k<=5/\v=.int .i64 k/\SealInv w s b i id B1 B2 (B2+1) k wr) (fun v _=>5-(intOf v).toNat)
 case atStart=>exact⟨0,by omega,rfl,HI⟩
 case round=>
  obtain⟨k,hk5,rfl,hinv⟩:=hrel
  by_cases hlt:k<5
  ·have c1:wr.cell? ⟨B1,k,none⟩=some (.int .i64 (Mk.sec s b i k)):=by
    have:=hinv.r1 k (by simpa [secL] using hlt);rw[Nat.zero_add,secL_at s b i k hlt] at this;exact this
   have c2:wr.cell? ⟨B2,k,none⟩=some (.int .i64 (Mk.dg id k)):=by
    have:=hinv.r2 k (by simpa [dgL] using hlt);rw[Nat.zero_add,dgL_at id k hlt] at this;exact this
   obtain⟨v3,c3⟩:∃ v3,wr.cell? ⟨B2+1,k,none⟩=some v3:=by
    have:=hinv.r3 k (by rw[partL_len];exact hlt);rw[Nat.zero_add] at this;exact⟨_,this⟩
   have f3:wr.frozen? ⟨B2+1,k,none⟩=false:=by
    have:=hinv.fr k hlt;rw[Nat.zero_add] at this;exact this
   have bs:=Mk.sec_bd s b i k
   have bd:=Mk.dg_bd id k
   go_wp2
   go_region_with (go_at_call 128;refine(times_any _ _ _ (by omega) (by omega) (by omega) (by omega)).mono ?_;rintro e w' ⟨rfl,rfl⟩)
   all_goals go_wp2
   all_goals go_roundw
   all_goals first|exact⟨k+1,by omega,by go_num,hinv.drew.step hlt⟩|(simp[intOf];omega)
  ·have hk:k=5:=by omega
   subst hk
   go_wp2
   go_ret2
   refine⟨_,rfl,?_,hinv.fr,hinv.lo,hinv.bl⟩
   have:=hinv.r3
   rw[partL_all] at this
   exact this
def snV (p:CoinD×Nat):List Value:=[.int .i64 p.1.id,.int .i64 p.1.pos,.slice (some ⟨p.2,0,none⟩) 5 5]
theorem sn3 (p:CoinD×Nat):(snV p).length=3:=rfl
theorem sn_one (p:CoinD×Nat):∀ u∈snV p,u.oneCell'=true:=by
 intro u hu
 simp only[snV,List.mem_cons,List.not_mem_nil,or_false] at hu
 rcases hu with rfl|rfl|rfl<;>rfl
structure SqI (s id:Int) (w:World) (v:Value) (L:List (CoinD×Nat)) (wr:World):Prop where
 own:OwnRec snV 115 3 wr w.heap.size v L
 row:∀ p∈L,Row wr p.2 0 (Mk.sealL s p.1.br p.1.ix id)/\Free wr p.2 0 5/\w.heap.size<=p.2/\p.2<wr.heap.size
 nv:∀ p∈L,v.ownBlock≠some p.2
 nd:L.Pairwise (fun a b=>a.2≠b.2)
 bl:Below w.heap.size w wr
theorem SqI.grown {id:Int} {L:List (CoinD×Nat)} (h:SqI s id w v L wr) (hb:Below wr.heap.size wr w'):SqI s id w v L w':=
 ⟨h.own.grown hb,fun p hp=>⟨(h.row p hp).1.grown hb,(h.row p hp).2.1.below hb (h.row p hp).2.2.2,(h.row p hp).2.2.1,ltL (h.row p hp).2.2.2 hb.size⟩,h.nv,h.nd,h.bl.trans (hb.mono h.bl.size)⟩
theorem SqI.push {id:Int} {L:List (CoinD×Nat)} (h:SqI s id w v L wr) {x:CoinD} (hr:Row wr B 0 (Mk.sealL s x.br x.ix id)) (hf:Free wr B 0 5) (hlo:w.heap.size<=B) (hlt:B<wr.heap.size) (hn:∀ p∈L,p.2≠B) (hv:v.ownBlock≠some B) (hown:OwnRec snV 115 3 w8 w.heap.size (.slice (some ⟨g,0,none⟩) n c) (L++[(x,B)])) (hg:wr.grownBy w8 v.ownBlock) (hl:v.ownBlock=some g\/wr.heap.size<=g):
 SqI s id w (.slice (some ⟨g,0,none⟩) n c) (L++[(x,B)]) w8:=by
 have hstay:∀ q,q<wr.heap.size->v.ownBlock≠some q->∀ l,Row wr q 0 l->Free wr q 0 5->Row w8 q 0 l/\Free w8 q 0 5:=fun q hq hne l h1 h2=>⟨gb_row hg h1 (fun e=>hne e.symm),fun j hj=>(gb_frozen hg hq (fun e=>hne e.symm)).trans (h2 j hj)⟩
 refine⟨hown,fun p hp=>?_,fun p hp e=>?_,?_,h.bl.trans (gb_to_below hg h.bl.size (fun k hk=>(h.own.blk k hk).1))⟩
 ·rcases List.mem_append.1 hp with e|e
  ·have h1:=h.row p e
   have h2:=hstay p.2 h1.2.2.2 (h.nv p e) _ h1.1 h1.2.1
   exact⟨h2.1,h2.2,h1.2.2.1,ltL h1.2.2.2 hg.size⟩
  ·rw[List.mem_singleton] at e
   subst e
   have h2:=hstay B hlt hv _ hr hf
   exact⟨h2.1,h2.2,hlo,ltL hlt hg.size⟩
 ·simp[Value.ownBlock] at e
  have hpl:p.2<wr.heap.size/\v.ownBlock≠some p.2:=by
   rcases List.mem_append.1 hp with e2|e2
   ·exact⟨(h.row p e2).2.2.2,h.nv p e2⟩
   ·rw[List.mem_singleton] at e2
    subst e2
    exact⟨hlt,hv⟩
  rcases hl with e2|e2
  ·exact hpl.2 (by rw[e2,e])
  ·omega
 ·rw[List.pairwise_append]
  refine⟨h.nd,by simp,fun a ha b hb=>?_⟩
  rw[List.mem_singleton] at hb
  subst hb
  exact hn a ha
theorem sealedIns_any (ac:OAd) (n c:Nat) (cs:List CoinD) (s id:Int) (w:World) (hx:RecAt CoinD.l w ac cs) (hn:cs.length=n) (hnm:n<=1000) (hk:∀ x∈cs,Mk.isK s x.br x.ix=true) (hm:Mk.isM id=true):
 Calls Tryz.prog 93 #[.slice ac n c,.int .i64 s,.int .i64 id] w fun e w'=>∃ v L,e=.returned v/\L.map Prod.fst=cs/\SqI s id w v L w':=by
 have HN:=hiD hn
 have HX:=hiD hx
 have HK:=hiD hk
 clear hn hx hk
 go_enter Tryz.func93,Tryz.ntmps93
 go_wp2
 go_loopw [7,14] (fun v i wr=>∃ (k:Nat) (L:List (CoinD×Nat)),k<=n/\i=.int .i64 k/\Hid (L.map Prod.fst=cs.take k)/\Hid (SqI s id w v L wr)) (fun _ i _=>n-(intOf i).toNat)
 case atStart=>exact⟨0,[],Nat.zero_le _,rfl,rfl,OwnRec.nil _ _ _ _ _,fun p hp=>(by cases hp),fun p hp=>(by cases hp),List.Pairwise.nil,Below.refl _ _⟩
 case round=>
  obtain⟨k,L,hk,rfl,hL,hi⟩:=hrel
  by_cases hlt:k<n
  ·rcases HX.out with hnil|⟨gc,oc,rfl,hrow⟩
   ·have:=HN.out;rw[hnil] at this;simp at this;omega
   obtain⟨e0,e1,e2,e3,e4,e5⟩:=coinCells (hrow.grown hi.out.bl) k (by rw[HN.out];exact hlt)
   have HS:Hid (cs.take (k+1)=cs.take k++[cs.getD k dN]):=by
    show _=_
    rw[List.take_succ_eq_append_getElem (by rw[HN.out];exact hlt)]
    simp[List.getD,HN.out,hlt]
   have hky:=HK.out (cs.getD k dN) (getD_mem cs dN k (by rw[HN.out];exact hlt))
   have HLL:Hid (L.length<=1000):=by
    show _<=_
    have h1:=congrArg List.length hL.out
    rw[List.length_map,List.length_take] at h1
    omega
   clear hrow
   generalize cs.getD k dN=y at *
   obtain⟨y0,y1,y2,y3,y4,y5⟩:=y
   simp only at e0 e1 e2 e3 e4 e5 hky
   have hb4:Below wr.heap.size wr (wr.alloc (.cells #[.int .i64 y0,.int .i64 y1,.int .i64 y2,.int .i64 y3,.int .i64 y4,.int .i64 y5] 107)):=(Below.refl _ _).alloc leR _
   have HI4:=hiD (hi.out.grown hb4)
   obtain⟨x0,x1,x2,x3,x4,x5⟩:=xrow (vrow_new wr [.int .i64 y0,.int .i64 y1,.int .i64 y2,.int .i64 y3,.int .i64 y4,.int .i64 y5] 107)
   go_upto_region 5 with fail
   generalize wr.alloc (.cells #[.int .i64 y0,.int .i64 y1,.int .i64 y2,.int .i64 y3,.int .i64 y4,.int .i64 y5] 107)=w4 at *
   generalize wr.heap.size=X at *
   clear e0 e1 e2 e3 e4 e5 hb4 hi
   go_wp2_with fail
   refine(sealF_any s y4 y5 id _ hky hm).mono ?_
   rintro e w5 ⟨B,rfl,hr,hf,hlo,hb5⟩
   have d0:=(hb5.cell (p:=⟨X,0,none⟩) (cell_lt x0)).trans x0
   have d1:=(hb5.cell (p:=⟨X,1,none⟩) (cell_lt x1)).trans x1
   have hBl:B<w5.heap.size:=cell_lt (hr 0 (by simp[Mk.sealL]))
   have bC:Below w5.heap.size w5 (w5.alloc (.cells #[.int .i64 y0,.int .i64 y1,.slice (some ⟨B,0,none⟩) 5 5] 115)):=(Below.refl _ _).alloc leR _
   have HI6:Hid (SqI s id w u7 L (w5.alloc (.cells #[.int .i64 y0,.int .i64 y1,.slice (some ⟨B,0,none⟩) 5 5] 115))):=(HI4.out.grown hb5).grown bC
   have HP:Hid (∀ (w8:World) (g c:Nat),OwnRec snV 115 3 w8 w.heap.size (.slice (some ⟨g,0,none⟩) (L.length+1) c) (L++[((⟨y0,y1,y2,y3,y4,y5⟩:CoinD),B)])->(w5.alloc (.cells #[.int .i64 y0,.int .i64 y1,.slice (some ⟨B,0,none⟩) 5 5] 115)).grownBy w8 u7.ownBlock->(u7.ownBlock=some g\/(w5.alloc (.cells #[.int .i64 y0,.int .i64 y1,.slice (some ⟨B,0,none⟩) 5 5] 115)).heap.size<=g)->SqI s id w (.slice (some ⟨g,0,none⟩) (L.length+1) c) (L++[((⟨y0,y1,y2,y3,y4,y5⟩:CoinD),B)]) w8):=fun w8 g c h1 h2 h3=>HI6.out.push (x:=⟨y0,y1,y2,y3,y4,y5⟩) (B:=B) (hr.grown bC) (hf.below bC hBl) (leT HI4.out.bl.size hlo) (ltL hBl bC.size) (fun p hp e=>by have:=(HI4.out.row p hp).2.2.2;omega) (fun e=>by have:=(HI4.out.own.blk B e).2;omega) h1 h2 h3
   have hws:w.heap.size<=w5.heap.size:=leT HI4.out.bl.size hb5.size
   have HMP:Hid ((L++[((⟨y0,y1,y2,y3,y4,y5⟩:CoinD),B)]).map Prod.fst=cs.take (k+1)):=by show _=_;rw[List.map_append,hL.out,HS.out];rfl
   clear hr hf hlo hb5 x0 x1 x2 x3 x4 x5 HI4 bC hL HS
   go_upto_region 8 with (at_builtin;refine wpList_appR 33 40 _ Tryz.underlying33 info115 rfl (by decide) sn3 sn_one (w5.alloc (.cells #[.int .i64 y0,.int .i64 y1,.slice (some ⟨B,0,none⟩) 5 5] 115)) rfl _ _ rfl w.heap.size w5.heap.size 1 u7 L (⟨y0,y1,y2,y3,y4,y5⟩,B) (by rfl) (by rfl) HI6.out.own (vrow_new _ _ _) (by simp;omega) (by have:=HLL.out;unfold maxLen;omega) (by have:=HLL.out;omega) ?_;intro gb capb w8 hown8 hg8 hl8 hlt8)
   have HI9:Hid _:=HP.out w8 gb capb hown8 hg8 hl8
   clear hown8 hg8 hl8 hlt8 HP HI6 d0 d1
   go_wp2
   go_roundw
   case rel=>exact⟨k+1,_,by omega,by go_num,HMP,HI9⟩
   case measure=>simp[intOf];omega
  ·have HE:Hid (cs.take k=cs):=by show _=_;rw[List.take_of_length_le (by rw[HN.out];omega)]
   go_wp2
   go_ret
   exact⟨_,L,rfl,by rw[hL.out,HE.out],hi.out⟩
def PayD.on (p:PayD):PayD:={ p with sg:=true }
theorem pfind_spec (ps:List PayD) (k:Int):(pfindZ ps k=-1/\¬∃ p∈ps,p.num=k)\/∃ j,j<ps.length/\pfindZ ps k=(j:Nat)/\(ps.getD j dP).num=k:=by
 rcases idxOf_cases (fun p:PayD=>p.num== k) dP ps 0 with h|⟨j,h1,h2,h3⟩
 ·refine Or.inl ⟨h,?_⟩
  have key:∀ (l:List PayD) (i:Nat),idxOf (fun p:PayD=>p.num== k) l i=-1->¬∃ p∈l,p.num=k:=by
   intro l
   induction l with
   |nil=>rintro i _ ⟨p,hp,_⟩;cases hp
   |cons x r ih=>
    intro i hi
    unfold idxOf at hi
    by_cases hx:(x.num== k)=true
    ·rw[if_pos hx] at hi
     omega
    ·rw[if_neg hx] at hi
     rintro⟨p,hp,hk⟩
     rcases List.mem_cons.1 hp with e|e
     ·subst e
      exact hx (by rw[hk];simp)
     ·exact ih _ hi ⟨p,e,hk⟩
  exact key ps 0 h
 ·exact Or.inr ⟨j,h1,by unfold pfindZ;rw[h2];simp,by simpa using h3⟩
theorem PayOk.on {p:PayD} (h:PayOk N w p):PayOk N w p.on:=⟨h.co,h.cl,h.ou,h.ol,h.nc,h.np,h.b1,h.b2⟩
theorem LsAt.putS {ps:List PayD} (h:LsAt N w b o base (.slice (some ⟨g,0,none⟩) ps.length c) vs md nx ps ks) (j:Nat) (hj:j<ps.length):
 LsAt N (w.setCell ⟨g,j*5+4,none⟩ (.bool true)) b o base (.slice (some ⟨g,0,none⟩) ps.length c) vs md nx (ps.set j (ps.getD j dP).on) ks/\Fr (fun k=>k=g) w (w.setCell ⟨g,j*5+4,none⟩ (.bool true)):=by
 have hf:Fr (fun k=>k=g) w (w.setCell ⟨g,j*5+4,none⟩ (.bool true)):=(Fr.refl _ w).set g _ _ (fun _=>rfl)
 have hgb:¬b=g:=fun e=>by have:=(h.ol.blk g rfl).1;have:=h.nb;omega
 have hNg:∀ k,N k->¬k=g:=fun k hk e=>(h.nN k hk).2.2.1 (by rw[e];rfl)
 have e:ps.getD j dP=ps[j]:=by simp[List.getD,hj]
 have ho:=OwnRec.put pay5 h.ol j 4 hj (by omega) (.bool true) (ps.getD j dP).on (by rw[e];rfl)
 refine⟨⟨hf.cell h.c0 hgb,hf.cell h.c1 hgb,hf.cell h.c2 hgb,hf.cell h.c3 hgb,fun i=>by rw[World.frozen?_setCell];exact h.fz i,ho,hf.own h.os (fun k hk e2=>?_),fun p hp=>?_,h.nb,h.nl,fun k hk=>⟨by simpa using (h.nN k hk).1,(h.nN k hk).2⟩⟩,hf⟩
 ·subst e2
  exact h.nl k rfl hk
 ·rcases List.mem_or_eq_of_mem_set hp with hp|hp
  ·exact(h.ok p hp).fr hf hNg
  ·rw[hp,e]
   exact((h.ok _ (List.getElem_mem hj)).fr hf hNg).on
structure V3 (w:World) (L:Nat) (a0 a1 a2:Value):Prop where
 c0:w.cell? ⟨L,0,none⟩=some a0
 c1:w.cell? ⟨L,1,none⟩=some a1
 c2:w.cell? ⟨L,2,none⟩=some a2
 fz:∀ j,w.frozen? ⟨L,j,none⟩=false
theorem V3.fr (hf:Fr E w w') (h:V3 w L a0 a1 a2) (he:¬E L):V3 w' L a0 a1 a2:=
 ⟨hf.cell h.c0 he,hf.cell h.c1 he,hf.cell h.c2 he,fun j=>(hf.frozen (cell_lt h.c0) he).trans (h.fz j)⟩
theorem V3.grown (hb:Below w.heap.size w w') (h:V3 w L a0 a1 a2):V3 w' L a0 a1 a2:=
 h.fr (Fr.of_below hb (fun _=>False)) (fun h=>h)
theorem V3.new (w:World) (a0 a1 a2:Value) (t:TypeId):V3 (w.alloc (.cells #[a0,a1,a2] t)) w.heap.size a0 a1 a2:=by
 refine⟨?_,?_,?_,fun j=>World.frozen?_alloc_at _ _ _ _ rfl⟩
 all_goals
  rw[World.cell?_alloc_new]
  rfl
theorem V3.s0 (h:V3 w L a0 a1 a2) (u:Value):V3 (w.setCell ⟨L,0,none⟩ u) L u a1 a2:=⟨ss h.c0,so h.c1 (by decide),so h.c2 (by decide),fun j=>by rw[World.frozen?_setCell];exact h.fz j⟩
theorem V3.s1 (h:V3 w L a0 a1 a2) (u:Value):V3 (w.setCell ⟨L,1,none⟩ u) L a0 u a2:=⟨so h.c0 (by decide),ss h.c1,so h.c2 (by decide),fun j=>by rw[World.frozen?_setCell];exact h.fz j⟩
theorem V3.s2 (h:V3 w L a0 a1 a2) (u:Value):V3 (w.setCell ⟨L,2,none⟩ u) L a0 a1 u:=⟨so h.c0 (by decide),so h.c1 (by decide),ss h.c2,fun j=>by rw[World.frozen?_setCell];exact h.fz j⟩
theorem fr3K (w:World) (B:Nat) (b0 b1 b2:Value):Fr (fun k=>k=B) w (((w.setCell ⟨B,0,none⟩ b0).setCell ⟨B,1,none⟩ b1).setCell ⟨B,2,none⟩ b2):=
 (((Fr.refl (fun k=>k=B) w).set B 0 _ (fun _=>rfl)).set B 1 _ (fun _=>rfl)).set B 2 _ (fun _=>rfl)
def PayD.id (p:PayD):Int:=idZ p.tag (p.cs.map fun x=>(⟨x.id,x.pos,none,0,0,[]⟩:InD)) p.ys
def signZ (xs:List Cel) (ps:List PayD) (ks:LII) (n:Int):Sum Int Nat:=
 if pfindZ ps n<0 then .inl 11
 else if (ps.getD (pfindZ ps n).toNat dP).sg=false/\(hasId xs (ps.getD (pfindZ ps n).toNat dP).id=true\/hasAllZ xs (ps.getD (pfindZ ps n).toNat dP).cs=false) then .inl 12
 else if (ps.getD (pfindZ ps n).toNat dP).sg=false/\anySealZ ks (ps.getD (pfindZ ps n).toNat dP).cs=true then .inl 13
 else .inr (pfindZ ps n).toNat
structure SgTx (base:Nat) (s:Int) (p:PayD) (vi vo:Value) (L:List (CoinD×Nat)) (w:World):Prop where
 fst:L.map Prod.fst=p.cs
 own:OwnRec snV 115 3 w base vi L
 row:∀ q∈L,Row w q.2 0 (Mk.sealL s q.1.br q.1.ix p.id)/\Free w q.2 0 5/\base<=q.2/\q.2<w.heap.size
 nv:∀ q∈L,vi.ownBlock≠some q.2/\vo.ownBlock≠some q.2
 nd:L.Pairwise (fun a b=>a.2≠b.2)
 oo:OwnRec kV 93 2 w base vo p.ys
 ne:∀ k,vi.ownBlock=some k->vo.ownBlock≠some k
end
end Go.Proofs.YtffgpepngcnjeabGreat
