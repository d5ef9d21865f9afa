import Derived.Test.YtffgpepngcnjeabGreatSbi
namespace Go.Proofs.YtffgpepngcnjeabGreat
section
open Go.RowKit
variable {E L L' N F:NPr} {w w' w1 w2 wr w5 w6 w7:World} {pat:Int->List Value} {z lo hi k lo' hi' a Dr q q' g5 n5 cap5 g7 n7 cap7 m n b e base P g nx D G:Nat} {col col' c0 c1 c2:NtN} {V W V5 V7 v vl vs v':Value} {ns:List Int} {z1 s h md h':Int} {ob5 ob7:Obj} {l:List Value} {xs xs':List Cel} {ps:List PayD} {ks:LII}
def patOf:Nat->Int->List Value
 |1,z=>[.int .i64 z]
 |2,z=>[.int .i64 z,.int .i64 z,.slice none 0 0]
 |3,z=>[.int .i64 z,.int .i64 z]
 |4,z=>[.int .i64 z,.int .i64 z]
 |_,z=>[.int .i64 z,.int .i64 z,.int .i64 z,.int .i64 z,.int .i64 z,.int .i64 z]
def eOf:Nat->Nat
 |1=>44
 |2=>33
 |3=>28
 |4=>36
 |_=>45
def KeptAt (pat:Int->List Value) (w:World) (x:CbD) (z:Int):Prop:=x.n=0\/(x.n<=9223372036854775807/\∃ b,x.ao=some ⟨b,0,none⟩/\VRow w b 0 ((List.replicate x.n z).flatMap pat))
def CbD.blk (x:CbD):Option Nat:=if x.n=0 then none else x.ao.map Addr.block
theorem KeptAt.fr (hf:Fr E w w') {x:CbD} {z:Int} (h:KeptAt pat w x z) (he:∀ k,x.blk=some k->¬E k):KeptAt pat w' x z:=by
 by_cases h0:x.n=0
 ·exact Or.inl h0
 ·rcases h with h|⟨hn,b,e,hr⟩
  ·exact Or.inl h
  ·exact Or.inr ⟨hn,b,e,hf.vrow hr (he b (by unfold CbD.blk;rw[if_neg h0,e];rfl))⟩
structure DrK (a:Nat) (col:NtN) (z:Nat) (w:World) (Dr:Nat) (V W:Value) (q:Nat) (cs:List CbD) (ns:List Int):Prop where
 ca:w.cell? ⟨Dr,a,none⟩=some V
 cb:w.cell? ⟨Dr,a+5,none⟩=some W
 oc:OwnRec CbD.v (eOf a) 1 w 0 V cs
 on:OwnRec iV 3 1 w 0 W ns
 ln:cs.length=ns.length
 lq:ns.length<=q
 kp:∀ i,i<cs.length->KeptAt (patOf a) w (cs.getD i dCb) (ns.getD i 0)
 kv:∀ k,V.ownBlock=some k->col k=z+13+a
 kw:∀ k,W.ownBlock=some k->col k=z+18+a
 kl:∀ i,i<cs.length->∀ k,(cs.getD i dCb).blk=some k->col k=z+24
structure DrA (col:NtN) (z:Nat) (w:World) (Dr:Nat) (q:Nat):Prop where
 n0:∃ k,w.cell? ⟨Dr,0,none⟩=some (.int .i64 k)
 fz:∀ j,w.frozen? ⟨Dr,j,none⟩=false
 kd:col Dr=z+13
 kn:∀ a,1<=a->a<=5->∃ V W cs ns,DrK a col z w Dr V W q cs ns
def Ext (z lo hi:Nat) (col col':NtN) (w':World):Prop:=∀ k,col' k=col k\/(col k=0/\z+lo<=col' k/\col' k<=z+hi/\k<w'.heap.size)
theorem Ext.refl (z lo hi:Nat) (col:NtN) (w:World):Ext z lo hi col col w:=fun _=>Or.inl rfl
theorem Ext.same (h:Ext z lo hi col col' w) (hk:col k≠0):col' k=col k:=(h k).resolve_right (fun e=>hk e.1)
theorem Ext.trans (h:Ext z lo hi c0 c1 w1) (k:Ext z lo hi c1 c2 w2) (hs:w1.heap.size<=w2.heap.size):Ext z lo hi c0 c2 w2:=fun q=>by
 rcases h q with e|e
 ·rcases k q with f|f
  ·exact Or.inl (f.trans e)
  ·exact Or.inr ⟨by rw[<-e];exact f.1,f.2⟩
 ·rcases k q with f|f
  ·exact Or.inr ⟨e.1,by omega,by omega,by omega⟩
  ·exact Or.inr ⟨e.1,f.2⟩
theorem Ext.weak (h:Ext z lo hi col col' w) (h1:lo'<=lo) (h2:hi<=hi') (hs:w.heap.size<=w'.heap.size):Ext z lo' hi' col col' w':=fun k=>(h k).imp id (fun e=>⟨e.1,by omega,by omega,by omega⟩)
theorem Ext.zero (h:Ext z lo hi col col' w') (hs:w.heap.size<=w'.heap.size) (hz:∀ k,w.heap.size<=k->col k=0):∀ k,w'.heap.size<=k->col' k=0:=fun k hk=>by
 rcases h k with e|e
 ·rw[e];exact hz k (by omega)
 ·omega
theorem DrK.mv {cs:List CbD} (h:DrK a col z w Dr V W q cs ns) (hf:Fr E w w') (hE:∀ k,(col k=z+13+a\/col k=z+18+a\/col k=z+24)->¬E k) (hc:∀ k,col k≠0->col' k=col k) (hq:q<=q')
 (h1:w'.cell? ⟨Dr,a,none⟩=some V) (h2:w'.cell? ⟨Dr,a+5,none⟩=some W):DrK a col' z w' Dr V W q' cs ns:=
 ⟨h1,h2,hf.own h.oc (fun k hk=>hE k (Or.inl (h.kv k hk))),hf.own h.on (fun k hk=>hE k (Or.inr (Or.inl (h.kw k hk)))),h.ln,leT h.lq hq,fun i hi=>(h.kp i hi).fr hf (fun k hk=>hE k (Or.inr (Or.inr (h.kl i hi k hk)))),fun k hk=>by rw[hc k (by rw[h.kv k hk];omega)];exact h.kv k hk,fun k hk=>by rw[hc k (by rw[h.kw k hk];omega)];exact h.kw k hk,fun i hi k hk=>by rw[hc k (by rw[h.kl i hi k hk];omega)];exact h.kl i hi k hk⟩
theorem DrA.mv (h:DrA col z w Dr q) (hf:Fr E w w') (hE:∀ k,E k->¬(z+13<=col k/\col k<=z+24)) (hc:∀ k,col k≠0->col' k=col k) (hq:q<=q'):DrA col' z w' Dr q':=by
 have hD:¬E Dr:=fun e=>hE Dr e (by rw[h.kd];omega)
 obtain⟨k,n0⟩:=h.n0
 have hl:Dr<w.heap.size:=cell_lt n0
 refine⟨⟨k,hf.cell n0 hD⟩,fun j=>(hf.frozen hl hD).trans (h.fz j),by rw[hc Dr (by rw[h.kd];omega)];exact h.kd,fun a h1 h2=>?_⟩
 obtain⟨V,W,cs,ns,hk⟩:=h.kn a h1 h2
 exact⟨V,W,cs,ns,hk.mv hf (fun k hk e=>hE k e (by omega)) hc hq (hf.cell hk.ca hD) (hf.cell hk.cb hD)⟩
theorem DrA.grown (h:DrA col z w Dr q) (hb:Below w.heap.size w w'):DrA col z w' Dr q:=
 h.mv (Fr.of_below hb (fun _=>False)) (fun _ h=>h.elim) (fun _ _=>rfl) leR
theorem DrA.lt (h:DrA col z w Dr q):Dr<w.heap.size:=by
 obtain⟨k,n0⟩:=h.n0
 exact cell_lt n0
theorem DrA.tick (h:DrA col z w Dr q) (x:Int):DrA col z (w.setCell ⟨Dr,0,none⟩ (.int .i64 x)) Dr q/\(w.setCell ⟨Dr,0,none⟩ (.int .i64 x)).cell? ⟨Dr,0,none⟩=some (.int .i64 x):=by
 obtain⟨k,n0⟩:=h.n0
 have hf:Fr (fun k=>k=Dr) w (w.setCell ⟨Dr,0,none⟩ (.int .i64 x)):=(Fr.refl _ w).set Dr 0 _ (fun _=>rfl)
 refine⟨⟨⟨x,ss n0⟩,fun j=>by rw[World.frozen?_setCell];exact h.fz j,h.kd,fun a h1 h2=>?_⟩,ss n0⟩
 obtain⟨V,W,cs,ns,hk⟩:=h.kn a h1 h2
 exact⟨V,W,cs,ns,hk.mv hf (fun k hk2 e=>by subst e;rw[h.kd] at hk2;omega) (fun _ _=>rfl) leR (so hk.ca (by omega)) (so hk.cb (by omega))⟩
structure DrB (a:Nat) (col:NtN) (z:Nat) (w:World) (Dr q:Nat) (V W:Value) (cs:List CbD) (ns:List Int) (z1:Int):Prop where
 fz:∀ j,w.frozen? ⟨Dr,j,none⟩=false
 kd:col Dr=z+13
 c0:w.cell? ⟨Dr,0,none⟩=some (.int .i64 z1)
 ca:w.cell? ⟨Dr,a,none⟩=some V
 cb:w.cell? ⟨Dr,a+5,none⟩=some W
 oc:OwnRec CbD.v (eOf a) 1 w 0 V cs
 on:OwnRec iV 3 1 w 0 W ns
 ln:cs.length=ns.length+1
 lq:ns.length<=q
 kp:∀ i,i<cs.length->KeptAt (patOf a) w (cs.getD i dCb) ((ns++[z1]).getD i 0)
 kv:∀ k,V.ownBlock=some k->col k=z+13+a
 kw:∀ k,W.ownBlock=some k->col k=z+18+a
 kl:∀ i,i<cs.length->∀ k,(cs.getD i dCb).blk=some k->col k=z+24
 ot:∀ b,1<=b->b<=5->b≠a->∃ V W cs ns,DrK b col z w Dr V W q cs ns
def col1 (col:NtN) (z a g5:Nat) (x:CbD) (k:Nat):Nat:=if k=g5 then z+13+a else if x.blk=some k then z+24 else col k
def col2 (col:NtN) (z a g7:Nat) (k:Nat):Nat:=if k=g7 then z+18+a else col k
theorem gsnL {α:Type} (l:List α) (x d:α):(l++[x]).getD l.length d=x:=by simp[List.getD]
theorem gsnA {α:Type} (l:List α) (x d:α) (i:Nat) (h:i<l.length):(l++[x]).getD i d=l.getD i d:=by simp[List.getD,List.getElem?_append_left h]
theorem dr_one {cs:List CbD} {x:CbD} (hA:DrA col z wr Dr q) (hk:DrK a col z wr Dr V W q cs ns) (ha:1<=a/\a<=5) (hz:∀ k,wr.heap.size<=k->col k=0)
 (h0:wr.cell? ⟨Dr,0,none⟩=some (.int .i64 z1)) (hx:KeptAt (patOf a) wr x z1) (hxc:∀ k,x.blk=some k->col k=0/\k<wr.heap.size) (hV5:V5=.slice (some ⟨g5,0,none⟩) n5 cap5) (h5:OwnRec CbD.v (eOf a) 1 w5 0 V5 (cs++[x])) (hg5:(wr.alloc ob5).grownBy w5 V.ownBlock) (hl5:V.ownBlock=some g5\/(wr.alloc ob5).heap.size<=g5):
 w5.cell? ⟨Dr,a,none⟩=some V/\w5.frozen? ⟨Dr,a,none⟩=false/\DrB a (col1 col z a g5 x) z (w5.setCell ⟨Dr,a,none⟩ V5) Dr q V5 W (cs++[x]) ns z1/\Fr (fun k=>k=Dr\/V.ownBlock=some k) wr (w5.setCell ⟨Dr,a,none⟩ V5)/\Ext z 13 24 col (col1 col z a g5 x) w5/\(∀ k,col k=0->k<wr.heap.size->x.blk≠some k->col1 col z a g5 x k=0):=by
 subst hV5
 have hgr:wr.grownBy w5 V.ownBlock:=gb_trans (gb_alloc _ _ _) hg5
 have hDl:Dr<wr.heap.size:=hA.lt
 have hDV:some Dr≠V.ownBlock:=fun e=>by have:=hk.kv Dr e.symm;rw[hA.kd] at this;omega
 have hg5l:g5<w5.heap.size:=(h5.blk g5 rfl).2
 have hf:Fr (fun k=>k=Dr\/V.ownBlock=some k) wr (w5.setCell ⟨Dr,a,none⟩ (.slice (some ⟨g5,0,none⟩) n5 cap5)):=(Fr.of_gb hgr (fun k hk _=>Or.inr hk)).set Dr a _ (fun _=>Or.inl rfl)
 have hg5c:col g5=z+13+a\/col g5=0:=by
  rcases hl5 with e|e
  ·exact Or.inl (hk.kv g5 e)
  ·rw[World.size_alloc] at e;exact Or.inr (hz g5 (by omega))
 have hg5D:g5≠Dr:=fun e=>by subst e;rw[hA.kd] at hg5c;omega
 have hkeep:∀ k,col k≠0->col1 col z a g5 x k=col k:=fun k hk0=>by
  unfold col1
  by_cases e:k=g5
  ·subst e;rw[if_pos rfl];omega
  ·rw[if_neg e]
   split
   ·rename_i e2;exact absurd (hxc k e2).1 hk0
   ·rfl
 have hxg:∀ k,x.blk=some k->k≠g5:=fun k hk2 e=>by
  subst e
  have h1:=hxc k hk2
  rcases hl5 with e|e
  ·have:=hk.kv k e;omega
  ·rw[World.size_alloc] at e;omega
 have hsz:wr.heap.size<=w5.heap.size:=hgr.size
 refine⟨gb_cell hgr hk.ca hDV,(gb_frozen hgr hDl hDV).trans (hA.fz a),⟨fun j=>by rw[World.frozen?_setCell];exact(gb_frozen hgr hDl hDV).trans (hA.fz j),by rw[hkeep Dr (by rw[hA.kd];omega)];exact hA.kd,so (gb_cell hgr h0 hDV) (by omega),ss (gb_cell hgr hk.ca hDV),so (gb_cell hgr hk.cb hDV) (by omega),own_set h5 _ _ _ (fun e=>by simp[Value.ownBlock] at e;exact hg5D e),?_,by rw[List.length_append,hk.ln];rfl,hk.lq,fun i hi=>?_,fun k e=>?_,fun k e=>?_,fun i hi k e=>?_,fun b h1 h2 hne=>?_⟩,hf,fun k=>?_,fun k hk1 hk2 hk3=>?_⟩
 ·exact hf.own hk.on (fun k hk2 e=>by
   have h1:=hk.kw k hk2
   rcases e with e|e
   ·subst e;rw[hA.kd] at h1;omega
   ·have:=hk.kv k e;omega)
 ·have hnE:∀ k,(col k=z+24\/col k=0/\k<wr.heap.size)->¬(k=Dr\/V.ownBlock=some k):=fun k h1 e=>by
   rcases e with e|e
   ·subst e;rw[hA.kd] at h1;omega
   ·have:=hk.kv k e;omega
  rw[List.length_append,List.length_singleton] at hi
  by_cases e:i<cs.length
  ·rw[gsnA cs x dCb i e,gsnA ns z1 0 i (by rw[<-hk.ln];exact e)]
   exact(hk.kp i e).fr hf (fun k hk2=>hnE k (Or.inl (hk.kl i e k hk2)))
  ·have e2:i=cs.length:=by omega
   subst e2
   rw[gsnL,hk.ln,gsnL]
   exact hx.fr hf (fun k hk2=>hnE k (Or.inr (hxc k hk2)))
 ·simp[Value.ownBlock] at e
  subst e
  unfold col1
  rw[if_pos rfl]
 ·rw[hkeep k (by rw[hk.kw k e];omega)];exact hk.kw k e
 ·rw[List.length_append,List.length_singleton] at hi
  by_cases e2:i<cs.length
  ·rw[gsnA cs x dCb i e2] at e
   rw[hkeep k (by rw[hk.kl i e2 k e];omega)]
   exact hk.kl i e2 k e
  ·have e3:i=cs.length:=by omega
   subst e3
   rw[gsnL] at e
   unfold col1
   rw[if_neg (hxg k e),if_pos e]
 ·obtain⟨V',W',cs',ns',h'⟩:=hA.kn b h1 h2
  exact⟨V',W',cs',ns',h'.mv hf (fun k hk2 e=>by
   rcases e with e|e
   ·subst e;rw[hA.kd] at hk2;omega
   ·have:=hk.kv k e;omega) hkeep leR (so (gb_cell hgr h'.ca hDV) (by omega)) (so (gb_cell hgr h'.cb hDV) (by omega))⟩
 ·unfold col1
  by_cases e:k=g5
  ·subst e
   rw[if_pos rfl]
   rcases hg5c with e2|e2
   ·exact Or.inl e2.symm
   ·exact Or.inr ⟨e2,by omega,by omega,hg5l⟩
  ·rw[if_neg e]
   by_cases e2:x.blk=some k
   ·rw[if_pos e2]
    have:=hxc k e2
    exact Or.inr ⟨this.1,by omega,by omega,by omega⟩
   ·rw[if_neg e2]
    exact Or.inl rfl
 ·unfold col1
  rw[if_neg (fun e=>by
   subst e
   rcases hl5 with e2|e2
   ·have:=hk.kv k e2;omega
   ·rw[World.size_alloc] at e2;omega),if_neg hk3]
  exact hk1
theorem dr_two {cs:List CbD} (h:DrB a col z w6 Dr q V W cs ns z1) (ha:1<=a/\a<=5) (hz:∀ k,w6.heap.size<=k->col k=0)
 (hV7:V7=.slice (some ⟨g7,0,none⟩) n7 cap7) (h7:OwnRec iV 3 1 w7 0 V7 (ns++[z1])) (hg7:((w6.alloc ob7).drew).grownBy w7 W.ownBlock) (hl7:W.ownBlock=some g7\/((w6.alloc ob7).drew).heap.size<=g7):
 DrA (col2 col z a g7) z (w7.setCell ⟨Dr,a+5,none⟩ V7) Dr (q+1)/\Fr (fun k=>k=Dr\/W.ownBlock=some k) w6 (w7.setCell ⟨Dr,a+5,none⟩ V7)/\Ext z 13 24 col (col2 col z a g7) w7/\(∀ k,col k=0->k<w6.heap.size->col2 col z a g7 k=0):=by
 subst hV7
 have hgr:w6.grownBy w7 W.ownBlock:=gb_trans (gb_trans (gb_alloc _ _ _) (gb_drew _ _)) hg7
 have hDl:Dr<w6.heap.size:=cell_lt h.c0
 have hDW:some Dr≠W.ownBlock:=fun e=>by have:=h.kw Dr e.symm;rw[h.kd] at this;omega
 have hg7l:g7<w7.heap.size:=(h7.blk g7 rfl).2
 have hf:Fr (fun k=>k=Dr\/W.ownBlock=some k) w6 (w7.setCell ⟨Dr,a+5,none⟩ (.slice (some ⟨g7,0,none⟩) n7 cap7)):=(Fr.of_gb hgr (fun k hk _=>Or.inr hk)).set Dr (a+5) _ (fun _=>Or.inl rfl)
 have hg7c:col g7=z+18+a\/col g7=0:=by
  rcases hl7 with e|e
  ·exact Or.inl (h.kw g7 e)
  ·rw[World.size_drew,World.size_alloc] at e;exact Or.inr (hz g7 (by omega))
 have hg7D:g7≠Dr:=fun e=>by subst e;rw[h.kd] at hg7c;omega
 have hkeep:∀ k,col k≠0->col2 col z a g7 k=col k:=fun k hk0=>by
  unfold col2
  by_cases e:k=g7
  ·subst e;rw[if_pos rfl];omega
  ·rw[if_neg e]
 have hnE:∀ k,(col k=z+13+a\/col k=z+24)->¬(k=Dr\/W.ownBlock=some k):=fun k h1 e=>by
  rcases e with e|e
  ·subst e;rw[h.kd] at h1;omega
  ·have:=h.kw k e;omega
 refine⟨⟨⟨z1,so (gb_cell hgr h.c0 hDW) (by omega)⟩,fun j=>by rw[World.frozen?_setCell];exact(gb_frozen hgr hDl hDW).trans (h.fz j),by rw[hkeep Dr (by rw[h.kd];omega)];exact h.kd,fun b h1 h2=>?_⟩,hf,fun k=>?_,fun k hk1 hk2=>?_⟩
 ·by_cases e:b=a
  ·subst e
   refine⟨V,.slice (some ⟨g7,0,none⟩) n7 cap7,cs,ns++[z1],⟨so (gb_cell hgr h.ca hDW) (by omega),ss (gb_cell hgr h.cb hDW),hf.own h.oc (fun k hk=>hnE k (Or.inl (h.kv k hk))),own_set h7 _ _ _ (fun e=>by simp[Value.ownBlock] at e;exact hg7D e),by rw[h.ln,List.length_append];rfl,by rw[List.length_append,List.length_singleton];have:=h.lq;omega,fun i hi=>(h.kp i hi).fr hf (fun k hk=>hnE k (Or.inr (h.kl i hi k hk))),fun k hk=>by rw[hkeep k (by rw[h.kv k hk];omega)];exact h.kv k hk,fun k hk=>?_,fun i hi k hk=>by rw[hkeep k (by rw[h.kl i hi k hk];omega)];exact h.kl i hi k hk⟩⟩
   simp[Value.ownBlock] at hk
   subst hk
   unfold col2
   rw[if_pos rfl]
  ·obtain⟨V',W',cs',ns',h'⟩:=h.ot b h1 h2 e
   exact⟨V',W',cs',ns',h'.mv hf (fun k hk2 e=>by
    rcases e with e|e
    ·subst e;rw[h.kd] at hk2;omega
    ·have:=h.kw k e;omega) hkeep (by omega) (so (gb_cell hgr h'.ca hDW) (by omega)) (so (gb_cell hgr h'.cb hDW) (by omega))⟩
 ·unfold col2
  by_cases e:k=g7
  ·subst e
   rw[if_pos rfl]
   rcases hg7c with e2|e2
   ·exact Or.inl e2.symm
   ·exact Or.inr ⟨e2,by omega,by omega,hg7l⟩
  ·rw[if_neg e]
   exact Or.inl rfl
 ·unfold col2
  rw[if_neg (fun e=>by
   subst e
   rcases hl7 with e2|e2
   ·have:=h.kw k e2;omega
   ·rw[World.size_drew,World.size_alloc] at e2;omega)]
  exact hk1
def KeptM (col:NtN) (z Dr q m:Nat) (L:NPr) (w w':World):Prop:=
 ∃ col',Ext z 13 24 col col' w'/\DrA col' z w' Dr (q+m)/\Fr (fun k=>(z+13<=col k/\col k<=z+23)\/L k) w w'/\(∀ k,col k=0->k<w.heap.size->¬L k->col' k=0)
abbrev KeptR (col:NtN) (z Dr q:Nat) (L:NPr) (w w':World):Prop:=KeptM col z Dr q 1 L w w'
theorem KeptM.weak (h:KeptM col z Dr q m L w w') (hL:∀ k,L k->L' k):KeptM col z Dr q m L' w w':=by
 obtain⟨col',h1,h2,h3,h4⟩:=h
 exact⟨col',h1,h2,h3.weak (fun k _ e=>e.imp id (hL k)),fun k e1 e2 e3=>h4 k e1 e2 (fun e=>e3 (hL k e))⟩
theorem KeptM.trans (h:KeptM col z Dr q m L w w1) (hk:∀ col1,Ext z 13 24 col col1 w1->DrA col1 z w1 Dr (q+m)->(∀ k,col k=0->k<w.heap.size->¬L k->col1 k=0)->KeptM col1 z Dr (q+m) n L w1 w2):KeptM col z Dr q (m+n) L w w2:=by
 obtain⟨c1,h1,h2,h3,h4⟩:=h
 obtain⟨c2,k1,k2,k3,k4⟩:=hk c1 h1 h2 h4
 refine⟨c2,h1.trans k1 k3.size,by rw[<-Nat.add_assoc];exact k2,?_,fun k e1 e2 e3=>k4 k (h4 k e1 e2 e3) (ltL e2 h3.size) e3⟩
 refine⟨k3.os.trans h3.os,k3.tape.trans h3.tape,k3.output.trans h3.output,leT h3.size k3.size,fun k hk he=>?_⟩
 refine(k3.block k (ltL hk h3.size) (fun e=>he ?_)).trans (h3.block k hk he)
 rcases e with e|e
 ·refine Or.inl ?_
  rcases h1 k with e2|e2
  ·omega
  ·by_cases e3:L k
   ·exact absurd (Or.inr e3) he
   ·have:=h4 k e2.1 hk e3
    omega
 ·exact Or.inr e
theorem dr_end {cs:List CbD} {x:CbD} (hd:col Dr=z+13) (hkv:∀ k,V.ownBlock=some k->col k=z+13+a) (hkw:∀ k,W.ownBlock=some k->col k=z+18+a) (ha:1<=a/\a<=5) (hz:∀ k,w.heap.size<=k->col k=0)
 (hw:Fr (fun k=>k=Dr\/L k) w wr) (hxL:∀ k,x.blk=some k->L k) (h1:DrB a (col1 col z a g5 x) z (w5.setCell ⟨Dr,a,none⟩ V5) Dr q V5 W (cs++[x]) ns z1) (h2:Fr (fun k=>k=Dr\/V.ownBlock=some k) wr (w5.setCell ⟨Dr,a,none⟩ V5)) (h3:Ext z 13 24 col (col1 col z a g5 x) w5) (h3':∀ k,col k=0->k<wr.heap.size->x.blk≠some k->col1 col z a g5 x k=0)
 (hV7:V7=.slice (some ⟨g7,0,none⟩) n7 cap7) (h7:OwnRec iV 3 1 w7 0 V7 (ns++[z1])) (hg7:(((w5.setCell ⟨Dr,a,none⟩ V5).alloc ob7).drew).grownBy w7 W.ownBlock) (hl7:W.ownBlock=some g7\/(((w5.setCell ⟨Dr,a,none⟩ V5).alloc ob7).drew).heap.size<=g7):KeptR col z Dr q L w (w7.setCell ⟨Dr,a+5,none⟩ V7):=by
 have hs1:=hw.size
 have hs2:=h2.size
 have hz1:∀ k,(w5.setCell ⟨Dr,a,none⟩ V5).heap.size<=k->col1 col z a g5 x k=0:=by
  have:=Ext.zero (w:=w) h3 (by rw[World.size_setCell] at hs2;omega) hz
  intro k hk
  rw[World.size_setCell] at hk
  exact this k hk
 obtain⟨r1,r2,r3,r4⟩:=dr_two h1 ha hz1 hV7 h7 hg7 hl7
 have hs3:=r2.size
 refine⟨_,?_,r1,?_,fun k e1 e2 e3=>r4 k (h3' k e1 (by omega) (fun e=>e3 (hxL k e))) (by omega)⟩
 ·refine Ext.trans (w1:=w5) (h3.weak leR leR leR) (r3.weak leR leR (by simp)) ?_
  rw[World.size_setCell] at hs3
  exact hs3
 ·refine(hw.weak (fun k _ e=>e.elim (fun e=>Or.inl (by subst e;rw[hd];omega)) Or.inr)).trans ((h2.weak (fun k _ e=>Or.inl ?_)).trans ?_)
  ·rcases e with e|e
   ·subst e;rw[hd];omega
   ·have:=hkv k e;omega
  ·refine⟨r2.os,r2.tape,r2.output,r2.size,fun k hk hne=>r2.block k hk (fun e=>hne ?_)⟩
   rcases e with e|e
   ·exact Or.inl (by subst e;rw[hd];omega)
   ·exact Or.inl (by rw[hkw k e];omega)
theorem VRow.put (h:VRow w b 0 l) (hn:l.length=n) (v:Value) (hc:∃ u,w.cell? ⟨b,n,none⟩=some u):VRow (w.setCell ⟨b,n,none⟩ v) b 0 (l++[v]):=by
 obtain⟨u,hc⟩:=hc
 intro j hj
 rw[List.length_append,List.length_singleton,hn] at hj
 rw[Nat.zero_add]
 by_cases e:j<n
 ·rw[cell_oth _ _ _ _ _ (by omega)]
  have:=h j (by omega)
  rw[Nat.zero_add] at this
  rw[this,gsnA l v dV j (by omega)]
 ·have:j=n:=by omega
  subst this
  rw[ss hc,<-hn,gsnL]
theorem rep_snoc (pat:Int->List Value) (j:Nat) (z:Int):(List.replicate (j+1) z).flatMap pat=(List.replicate j z).flatMap pat++pat z:=by
 rw[List.replicate_succ',List.flatMap_append]
 simp
theorem rep_len (pat:Int->List Value) (k:Nat) (hp:∀ z,(pat z).length=k) (j:Nat) (z:Int):((List.replicate j z).flatMap pat).length=j*k:=by
 rw[rec_len pat k hp,List.length_replicate]
def Handed (k:Nat) (col:NtN) (w:World) (v:Value):Prop:=v=.slice none 0 0\/∃ g n cc,v=.slice (some ⟨g,0,none⟩) n cc/\Room w g (cc*k)/\col g=0/\g<w.heap.size/\n<=cc/\cc<=9223372036854775807
theorem Handed.of {α:Type} {f:α->List Value} (hf:∀ x,(f x).length=k) {xs:List α} (h:OwnRec f e k w base v xs) (hc:∀ g,v.ownBlock=some g->col g=0):Handed k col w v:=by
 rcases h.slice hf with⟨rfl,_⟩|⟨g,c,rfl,_,_,_,_⟩
 ·exact Or.inl rfl
 ·exact Or.inr ⟨g,_,c,rfl,(own_room h).1,hc g rfl,(h.blk g rfl).2,(own_room h).2,own_cap h⟩
theorem Handed.mv (h:Handed k col w v) (hf:Fr E w w') (hE:∀ g,v.ownBlock=some g->¬E g/\col' g=0):Handed k col' w' v:=by
 rcases h with h|⟨g,n,cc,rfl,h1,h2,h3,h4,h5⟩
 ·exact Or.inl h
 ·exact Or.inr ⟨g,n,cc,rfl,h1.fr hf (hE g rfl).1,(hE g rfl).2,ltL h3 hf.size,h4,h5⟩
structure PgP where
 v:Value
 vl:Value
 vs:Value
 NP:Nat->Prop
 xs:List Cel
 ps:List PayD
 ks:LII
structure DgP where
 ao:OAd
 c:Nat
 bls:List (List TxD)
 ar:OAd
 cr:Nat
 ac:OAd
 cc:Nat
 vm:Value
 ms:List MadeD
 ND:Nat->Prop
structure Pg (col:NtN) (z:Nat) (w:World) (P:Nat) (s:Int) (g:Nat) (h:Int) (a:PgP) (md nx:Int):Prop where
 pp:PP a.NP w P s g a.v h a.xs a.vl a.vs md nx a.ps a.ks
 k1:col P=z+1
 k2:∀ k,a.v.ownBlock=some k->col k=z+2
 k3:∀ k,a.vl.ownBlock=some k->col k=z+3
 k4:∀ k,a.vs.ownBlock=some k->col k=z+4
 k5:∀ k,a.NP k->col k=z+5\/col k=z+3
structure Dg (col:NtN) (z:Nat) (N:NPr) (w:World) (D:Nat) (s:Int) (g:Nat) (b:DgP) (nx:Nat):Prop where
 dc:DCh N w D b.ao b.c b.bls
 ad:DAd w D s g b.ar b.cr b.ac b.cc
 c0:w.cell? ⟨D,0,none⟩=some (.int .i64 s)
 dp:DPy b.ND w D (D+1) b.vm (nx:Int) b.ms
 k7:col D=z+7
 k8:∀ a,b.ao=some a->col a.block=z+8
 k9:∀ a,b.ar=some a->col a.block=z+9
 k10:∀ a,b.ac=some a->col a.block=z+9
 k11:∀ k,b.vm.ownBlock=some k->col k=z+11
 k12:∀ k,b.ND k->col k=z+12
theorem Pg.mv {a:PgP} {nx:Int} (u:Pg col z w P s g h a md nx) (hf:Fr E w w') (hE:∀ k,E k->¬(z+1<=col k/\col k<=z+5)) (hc:∀ k,col k≠0->col' k=col k):Pg col' z w' P s g h a md nx:=by
 have e1:¬E P:=fun e=>hE P e (by rw[u.k1];omega)
 have e2:∀ k,a.v.ownBlock=some k->¬E k:=fun k hk e=>hE k e (by rw[u.k2 k hk];omega)
 have e3:∀ k,a.vl.ownBlock=some k->¬E k:=fun k hk e=>hE k e (by rw[u.k3 k hk];omega)
 have e4:∀ k,a.vs.ownBlock=some k->¬E k:=fun k hk e=>hE k e (by rw[u.k4 k hk];omega)
 have e5:∀ k,a.NP k->¬E k:=fun k hk e=>hE k e (by have:=u.k5 k hk;omega)
 refine⟨u.pp.fr hf (fun k hk=>?_) (fun k hk=>?_) e5,by rw[hc P (by rw[u.k1];omega)];exact u.k1,fun k hk=>by rw[hc k (by rw[u.k2 k hk];omega)];exact u.k2 k hk,fun k hk=>by rw[hc k (by rw[u.k3 k hk];omega)];exact u.k3 k hk,fun k hk=>by rw[hc k (by rw[u.k4 k hk];omega)];exact u.k4 k hk,fun k hk=>by rw[hc k (by have:=u.k5 k hk;omega)];exact u.k5 k hk⟩
 ·rcases hk with rfl|hk
  ·exact e1
  ·exact e2 k hk
 ·rcases hk with rfl|hk|hk
  ·exact e1
  ·exact e3 k hk
  ·exact e4 k hk
theorem Dg.mv {b:DgP} (u:Dg col z N w D s g b nx) (hf:Fr E w w') (hE:∀ k,E k->¬(z+7<=col k/\col k<=z+12)) (hN:∀ k,N k->¬E k) (hc:∀ k,col k≠0->col' k=col k):Dg col' z N w' D s g b nx:=by
 have e1:¬E D:=fun e=>hE D e (by rw[u.k7];omega)
 have e8:∀ a,b.ao=some a->¬E a.block:=fun a ha e=>hE _ e (by rw[u.k8 a ha];omega)
 have e9:∀ a,b.ar=some a->¬E a.block:=fun a ha e=>hE _ e (by rw[u.k9 a ha];omega)
 have e10:∀ a,b.ac=some a->¬E a.block:=fun a ha e=>hE _ e (by rw[u.k10 a ha];omega)
 have e11:∀ k,b.vm.ownBlock=some k->¬E k:=fun k hk e=>hE k e (by rw[u.k11 k hk];omega)
 have e12:∀ k,b.ND k->¬E k:=fun k hk e=>hE k e (by rw[u.k12 k hk];omega)
 exact⟨u.dc.fr hf hN e8 e1,⟨hf.cell u.ad.c1 e1,hf.cell u.ad.c2 e1,hf.cell u.ad.c3 e1,ints_fr hf u.ad.i0 (fun _ a ha=>e9 a ha),ints_fr hf u.ad.i1 (fun _ a ha=>e10 a ha)⟩,hf.cell u.c0 e1,u.dp.fr hf e1 e11 e12,by rw[hc D (by rw[u.k7];omega)];exact u.k7,fun a ha=>by rw[hc _ (by rw[u.k8 a ha];omega)];exact u.k8 a ha,fun a ha=>by rw[hc _ (by rw[u.k9 a ha];omega)];exact u.k9 a ha,fun a ha=>by rw[hc _ (by rw[u.k10 a ha];omega)];exact u.k10 a ha,fun k hk=>by rw[hc k (by rw[u.k11 k hk];omega)];exact u.k11 k hk,fun k hk=>by rw[hc k (by rw[u.k12 k hk];omega)];exact u.k12 k hk⟩
structure AG (z:Nat) (s:Int) (g:Nat) (N:NPr) (q:Nat) (col:NtN) (G P D Dr:Nat) (a:PgP) (b:DgP) (nx:Nat) (w:World):Prop where
 pg:Pg col z w P s g (b.bls.length:Nat) a (b.ms.length:Nat) (nx:Int)
 dg:Dg col z N w D s g b nx
 dr:DrA col z w Dr (13*q)
 gm:VRow w G 0 [.pointer (some ⟨P,0,none⟩),.pointer (some ⟨D,0,none⟩),.pointer (some ⟨Dr,0,none⟩)]
 kg:col G=z+6
 lk:Lk b.bls a.xs
 lp:LkP a.ps a.ks b.ms
 ky:∀ p∈a.ps,(∀ x∈p.cs,Mk.isK s x.br x.ix=true)/\p.cs≠[]/\p.ys≠[]
 nz:∀ k,w.heap.size<=k->col k=0
 nn:∀ k,N k->col k=0/\k<w.heap.size
 ml:b.ms.length<=q
 kl:a.ks.length<=10*q
 nl:nx<=101
theorem AG.mv {a:PgP} {b:DgP} (h:AG z s g N q col G P D Dr a b nx w) (hf:Fr E w w') (hE:∀ k,E k->¬(z+1<=col k/\col k<=z+24)) (hN:∀ k,N k->¬E k) (hc:∀ k,col k≠0->col' k=col k) (hn:∀ k,N k->col' k=0) (hz:∀ k,w'.heap.size<=k->col' k=0) (hq:q<=q'):AG z s g N q' col' G P D Dr a b nx w':=
 ⟨h.pg.mv hf (fun k e h=>hE k e (by omega)) hc,h.dg.mv hf (fun k e h=>hE k e (by omega)) hN hc,h.dr.mv hf (fun k e h=>hE k e (by omega)) hc (by omega),hf.vrow h.gm (fun e=>hE G e (by rw[h.kg];omega)),by rw[hc G (by rw[h.kg];omega)];exact h.kg,h.lk,h.lp,h.ky,hz,fun k hk=>⟨hn k hk,ltL (h.nn k hk).2 hf.size⟩,leT h.ml hq,by have:=h.kl;omega,h.nl⟩
theorem AG.grown {a:PgP} {b:DgP} (h:AG z s g N q col G P D Dr a b nx w) (hb:Below w.heap.size w w'):AG z s g N q col G P D Dr a b nx w':=
 h.mv (Fr.of_below hb (fun _=>False)) (fun _ e=>e.elim) (fun _ _ e=>e) (fun _ _=>rfl) (fun k hk=>(h.nn k hk).1) (fun k hk=>h.nz k (leT hb.size hk)) leR
theorem AG.more {a:PgP} {b:DgP} (h:AG z s g N q col G P D Dr a b nx w):AG z s g N (q+1) col G P D Dr a b nx w:=
 h.mv (Fr.refl (fun _=>False) w) (fun _ e=>e.elim) (fun _ _ e=>e) (fun _ _=>rfl) (fun k hk=>(h.nn k hk).1) h.nz (Nat.le_succ _)
def SOk (z:Nat) (s:Int) (g:Nat) (N:NPr) (q:Nat) (col:NtN) (G P D Dr:Nat) (w w':World):Prop:=
 ∃ col' a b nx,Ext z 1 24 col col' w'/\AG z s g N (q+1) col' G P D Dr a b nx w'/\Fr (fun k=>z<col k/\col k<=z+24) w w'
theorem AG.stay {a:PgP} {b:DgP} (h:AG z s g N q col G P D Dr a b nx w) (hb:Below w.heap.size w w'):SOk z s g N q col G P D Dr w w':=
 ⟨col,a,b,nx,Ext.refl _ _ _ _ _,(h.grown hb).more,Fr.of_below hb _⟩
theorem AG.lt {a:PgP} {b:DgP} (h:AG z s g N q col G P D Dr a b nx w) (hk:col k≠0):k<w.heap.size:=
 Classical.byContradiction fun e=>hk (h.nz k (by omega))
def exA (a:PgP) (md nx:Int):List (Nat×Value):=[(4,a.vl),(5,a.vs),(6,.int .i64 md),(7,.int .i64 nx)]
def deA (s:Int) (g:Nat) (b:DgP) (nx:Nat):List (Nat×Value):=[(0,.int .i64 s),(1,.int .i64 (g:Int)),(2,.slice b.ar 100 b.cr),(3,.slice b.ac 100 b.cc),(5,b.vm),(6,.int .i64 ((nx:Int)-1))]
theorem PP.toE {nx:Int} (u:PP N w P s g v h xs vl vs md nx ps ks):PAt [(4,vl),(5,vs),(6,.int .i64 md),(7,.int .i64 nx)] w P s g v h xs:=by
 refine⟨u.pu.c0,u.pu.c1,u.pu.f0,u.pu.f1,u.pu.own,fun q hq=>?_⟩
 simp only[List.mem_cons,List.not_mem_nil,or_false] at hq
 rcases hq with rfl|rfl|rfl|rfl|rfl|rfl
 ·exact u.pu.ext _ (by simp)
 ·exact u.pu.ext _ (by simp)
 ·exact⟨by simp,by simp,u.ls.c0⟩
 ·exact⟨by simp,by simp,u.ls.c1⟩
 ·exact⟨by simp,by simp,u.ls.c2⟩
 ·exact⟨by simp,by simp,u.ls.c3⟩
theorem PP.ofE {nx:Int} (u:PP N w P s g v h xs vl vs md nx ps ks) (hp:PAt [(4,vl),(5,vs),(6,.int .i64 md),(7,.int .i64 nx)] w' P s g v' h' xs') (hf:Fr F w w') (h1:∀ k,vl.ownBlock=some k->¬F k) (h2:∀ k,vs.ownBlock=some k->¬F k) (h3:∀ k,N k->¬F k) (hd:∀ k,v'.ownBlock=some k->vl.ownBlock≠some k/\vs.ownBlock≠some k/\¬N k):PP N w' P s g v' h' xs' vl vs md nx ps ks:=by
 refine⟨⟨hp.c0,hp.c1,hp.f0,hp.f1,hp.own,fun q hq=>hp.ext q ?_⟩,⟨(hp.ext (4,vl) (by simp)).2.2,(hp.ext (5,vs) (by simp)).2.2,(hp.ext (6,.int .i64 md) (by simp)).2.2,(hp.ext (7,.int .i64 nx) (by simp)).2.2,hp.f1,hf.own u.ls.ol h1,hf.own u.ls.os h2,fun p hp=>(u.ls.ok p hp).fr hf h3,u.ls.nb,u.ls.nl,fun k hk=>⟨ltL (u.ls.nN k hk).1 hf.size,(u.ls.nN k hk).2⟩⟩,hd⟩
 simp only[List.mem_cons,List.not_mem_nil,or_false] at hq ⊢
 rcases hq with rfl|rfl<;>simp
def AX (col:NtN) (P:Nat) (v:Value) (w:World) (k:Nat):Prop:=k<w.heap.size/\col k≠0/\¬chE P v k
theorem AG.gi {a:PgP} {b:DgP} (h:AG z s g N q col G P D Dr a b nx w):GI N (AX col P a.v w) (exA a (b.ms.length:Nat) (nx:Int)) (deA s g b nx) G P D (.pointer (some ⟨Dr,0,none⟩)) s g a.v b.ao b.c b.bls a.xs w:=by
 have hch:∀ k,chE P a.v k->col k=z+1\/col k=z+2:=fun k hk=>by
  rcases hk with rfl|hk
  ·exact Or.inl h.pg.k1
  ·exact Or.inr (h.pg.k2 k hk)
 refine⟨h.gm,h.pg.pp.toE,h.dg.dc,fun q hq=>?_,h.lk,fun k hk=>⟨fun e=>e.2.2 hk,fun e=>by have:=(h.nn k e).1;have:=hch k hk;omega⟩,fun k hk=>⟨hk.1,fun e=>hk.2.1 (h.nn k e).1⟩,fun k hk=>(h.nn k hk).2,?_,?_,fun e=>?_,fun x hx=>?_⟩
 ·simp only[deA,List.mem_cons,List.not_mem_nil,or_false] at hq
  rcases hq with rfl|rfl|rfl|rfl|rfl|rfl
  ·exact⟨by simp,h.dg.c0⟩
  ·exact⟨by simp,h.dg.ad.c1⟩
  ·exact⟨by simp,h.dg.ad.c2⟩
  ·exact⟨by simp,h.dg.ad.c3⟩
  ·exact⟨by simp,h.dg.dp.c5⟩
  ·exact⟨by simp,h.dg.dp.c6⟩
 ·have e:col G≠0:=by rw[h.kg];omega
  exact⟨h.lt e,e,fun e2=>by have:=hch G e2;rw[h.kg] at this;omega⟩
 ·have e:col D≠0:=by rw[h.dg.k7];omega
  exact⟨h.lt e,e,fun e2=>by have:=hch D e2;rw[h.dg.k7] at this;omega⟩
 ·have h1:=h.kg
  rw[e,h.dg.k7] at h1
  omega
 ·have h1:=h.dg.k8 x hx
  have e:col x.block≠0:=by omega
  exact⟨h.lt e,e,fun e2=>by have:=hch _ e2;omega⟩
def colC (col:NtN) (z:Nat) (v:Value) (ao:OAd) (k:Nat):Nat:=if v.ownBlock=some k then z+2 else if ao.map Addr.block=some k then z+8 else col k
theorem AG.chain {a:PgP} {b:DgP} (h:AG z s g N q col G P D Dr a b nx w) (hst:GStep N (AX col P a.v w) (exA a (b.ms.length:Nat) (nx:Int)) (deA s g b nx) G P D (.pointer (some ⟨Dr,0,none⟩)) s g a.v b.ao w w'):SOk z s g N q col G P D Dr w w':=by
 obtain⟨X',v',ao',c',bls',xs',hX,hao,hF,hG⟩:=hst
 have hpg:=h.pg
 have hdg:=h.dg
 have hch:∀ k,chE P a.v k->col k=z+1\/col k=z+2:=fun k hk=>by
  rcases hk with rfl|hk
  ·exact Or.inl hpg.k1
  ·exact Or.inr (hpg.k2 k hk)
 have hv:∀ k,v'.ownBlock=some k->col k=0\/col k=z+2:=fun k hk=>by
  by_cases e:col k=0
  ·exact Or.inl e
  ·have h1:=(hG.xp k (Or.inr hk)).1
   have h2:chE P a.v k:=Classical.byContradiction fun e2=>h1 (hX k ⟨h.lt e,e,e2⟩)
   rcases h2 with e2|e2
   ·have:=(hG.pu.own.blk k hk).1
    omega
   ·exact Or.inr (hpg.k2 k e2)
 have hb:∀ x,ao'=some x->col x.block=0\/col x.block=z+8:=fun x hx=>by
  rcases hao x hx with e|e
  ·exact Or.inr (hdg.k8 x e)
  ·exact Or.inl (h.nz _ e)
 have hbX:∀ k,ao'.map Addr.block=some k->X' k/\(col k=0\/col k=z+8):=fun k hk=>by
  cases ha:ao' with
  |none=>rw[ha] at hk;cases hk
  |some x=>
   rw[ha] at hk
   simp only[Option.map_some,Option.some.injEq] at hk
   rw[<-hk]
   exact⟨hG.xr x ha,hb x ha⟩
 have hkeep:∀ k,col k≠0->colC col z v' ao' k=col k:=fun k hk=>by
  unfold colC
  split
  ·rename_i e;have:=hv k e;omega
  ·split
   ·rename_i e;have:=(hbX k e).2;omega
   ·rfl
 have hE:∀ k,(chE P a.v k\/k=D)->col k=z+1\/col k=z+2\/col k=z+7:=fun k e=>by
  rcases e with e|e
  ·have:=hch k e;omega
  ·subst e;have:=hdg.k7;omega
 have hnF:∀ k,col k≠z+1->col k≠z+2->col k≠z+7->¬(chE P a.v k\/k=D):=fun k h1 h2 h3 e=>by have:=hE k e;omega
 refine⟨colC col z v' ao',{ a with v:=v',xs:=xs' },{ b with ao:=ao',c:=c',bls:=bls' },nx,fun k=>?_,⟨⟨?_,?_,fun k hk=>?_,fun k hk=>?_,fun k hk=>?_,fun k hk=>?_⟩,⟨hG.dc,?_,(hG.de (0,.int .i64 s) (by simp[deA])).2,?_,?_,fun x hx=>?_,fun x hx=>?_,fun x hx=>?_,fun k hk=>?_,fun k hk=>?_⟩,?_,hG.gm,?_,hG.lk,h.lp,h.ky,fun k hk=>?_,fun k hk=>⟨?_,hG.nl k hk⟩,by have:=h.ml;simp only;omega,by have:=h.kl;simp only;omega,h.nl⟩,hF.weak (fun k _ e=>by have:=hE k e;omega)⟩
 ·unfold colC
  split
  ·rename_i e
   rcases hv k e with e2|e2
   ·exact Or.inr ⟨e2,by omega,by omega,(hG.pu.blk k (Or.inr e)).2⟩
   ·exact Or.inl e2.symm
  ·split
   ·rename_i e
    rcases(hbX k e).2 with e2|e2
    ·exact Or.inr ⟨e2,by omega,by omega,(hG.xl k (hbX k e).1).1⟩
    ·exact Or.inl e2.symm
   ·exact Or.inl rfl
 ·exact hpg.pp.ofE hG.pu hF (fun k hk=>hnF k (by rw[hpg.k3 k hk];omega) (by rw[hpg.k3 k hk];omega) (by rw[hpg.k3 k hk];omega)) (fun k hk=>hnF k (by rw[hpg.k4 k hk];omega) (by rw[hpg.k4 k hk];omega) (by rw[hpg.k4 k hk];omega)) (fun k hk=>hnF k (by have:=hpg.k5 k hk;omega) (by have:=hpg.k5 k hk;omega) (by have:=hpg.k5 k hk;omega)) (fun k hk=>⟨fun e=>by have:=hpg.k3 k e;have:=hv k hk;omega,fun e=>by have:=hpg.k4 k e;have:=hv k hk;omega,fun e=>by have:=hpg.k5 k e;have:=hv k hk;omega⟩)
 ·rw[hkeep P (by rw[hpg.k1];omega)];exact hpg.k1
 ·unfold colC;rw[if_pos hk]
 ·rw[hkeep k (by rw[hpg.k3 k hk];omega)];exact hpg.k3 k hk
 ·rw[hkeep k (by rw[hpg.k4 k hk];omega)];exact hpg.k4 k hk
 ·rw[hkeep k (by have:=hpg.k5 k hk;omega)];exact hpg.k5 k hk
 ·exact⟨(hG.de (1,.int .i64 (g:Int)) (by simp[deA])).2,(hG.de (2,.slice b.ar 100 b.cr) (by simp[deA])).2,(hG.de (3,.slice b.ac 100 b.cc) (by simp[deA])).2,ints_fr hF hdg.ad.i0 (fun _ x hx=>hnF _ (by rw[hdg.k9 x hx];omega) (by rw[hdg.k9 x hx];omega) (by rw[hdg.k9 x hx];omega)),ints_fr hF hdg.ad.i1 (fun _ x hx=>hnF _ (by rw[hdg.k10 x hx];omega) (by rw[hdg.k10 x hx];omega) (by rw[hdg.k10 x hx];omega))⟩
 ·have hd:=hdg.dp
  refine⟨(hG.de (5,b.vm) (by simp[deA])).2,(hG.de (6,.int .i64 ((nx:Int)-1)) (by simp[deA])).2,hG.dc.f4 5,hG.dc.f4 6,hF.own hd.ow (fun k hk=>hnF k (by rw[hdg.k11 k hk];omega) (by rw[hdg.k11 k hk];omega) (by rw[hdg.k11 k hk];omega)),fun m hm=>(hd.ok m hm).fr hF (fun k hk=>hnF k (by rw[hdg.k12 k hk];omega) (by rw[hdg.k12 k hk];omega) (by rw[hdg.k12 k hk];omega)),hd.nb,fun k hk=>⟨ltL (hd.nN k hk).1 hF.size,(hd.nN k hk).2⟩⟩
 ·rw[hkeep D (by rw[hdg.k7];omega)];exact hdg.k7
 ·have h1:ao'.map Addr.block=some x.block:=by rw[show ao'=some x from hx];rfl
  unfold colC
  rw[if_neg (fun e=>(hG.xp _ (Or.inr e)).1 (hbX _ h1).1),if_pos h1]
 ·rw[hkeep _ (by rw[hdg.k9 x hx];omega)];exact hdg.k9 x hx
 ·rw[hkeep _ (by rw[hdg.k10 x hx];omega)];exact hdg.k10 x hx
 ·rw[hkeep k (by rw[hdg.k11 k hk];omega)];exact hdg.k11 k hk
 ·rw[hkeep k (by rw[hdg.k12 k hk];omega)];exact hdg.k12 k hk
 ·exact h.dr.mv hF (fun k e=>by have:=hE k e;omega) hkeep (by omega)
 ·rw[hkeep G (by rw[h.kg];omega)];exact h.kg
 ·have hsz:=hF.size
  unfold colC
  rw[if_neg (fun e=>by have:=(hG.pu.blk k (Or.inr e)).2;omega),if_neg (fun e=>by have:=(hG.xl k (hbX k e).1).1;omega)]
  exact h.nz k (by omega)
 ·unfold colC
  rw[if_neg (fun e=>(hG.xp k (Or.inr e)).2 hk),if_neg (fun e=>(hG.xl k (hbX k e).1).2 hk)]
  exact(h.nn k hk).1
end
end Go.Proofs.YtffgpepngcnjeabGreat
