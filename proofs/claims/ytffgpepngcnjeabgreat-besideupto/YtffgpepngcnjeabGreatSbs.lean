import Derived.Test.YtffgpepngcnjeabGreatSbp
import Derived.Test.YtffgpepngcnjeabGreatSbr
namespace Go.Proofs.YtffgpepngcnjeabGreat
set_option maxRecDepth 100000
set_option maxHeartbeats 8000000
section
open Go.RowKit
variable {N:NPr} {b o base g G D Dr X K i j:Nat} {vs vr vc x y v:Value} {md nx k er s:Int} {ps:List PayD} {ks:LII} {w w' w0:World} {col:NtN} {xs:List InD}
theorem AbOk.fr (h:AbOk N b o base vs md nx ps ks k er w w'):Fr (fun q=>q=b) w w':=by
 rcases h with⟨_,_,hb⟩|⟨_,_,_,_,hf,_⟩
 ·exact Fr.of_below hb _
 ·exact hf
theorem stepP_any (z:Nat) (s:Int) (g:Nat) (N:NPr) (q:Nat) (col:NtN) (G P D Dr:Nat) (a:PgP) (b:DgP) (nx:Nat) (o:OpD) (w:World) (hk:o.kd=3) (h:AG z s g N q col G P D Dr a b nx w) (ho:OpOk N w o) (hfit:fitZ s (g:Int)=true) (hq:q<=1048576):
 Calls Tryz.prog 28 #[.pointer (some ⟨G,0,none⟩),o.val] w fun e w'=>e=.returned (.bool true)/\SOk z s g N q col G P D Dr w w':=by
 obtain⟨kd,on,oa1,ob1,ab,m,d,bl,oa,om,od,ys⟩:=o
 simp only at hk
 subst hk
 have hb1:Below w.heap.size w (w.alloc (.cells #[.int .i64 3,.int .i64 on,.int .i64 oa1,.int .i64 ob1,.slice ab m d,.slice oa om od] 82)):=(Below.refl _ _).alloc leR _
 have HG:=hiD (h.grown hb1)
 have HO:Hid (OpOk N (w.alloc (.cells #[.int .i64 3,.int .i64 on,.int .i64 oa1,.int .i64 ob1,.slice ab m d,.slice oa om od] 82)) ⟨3,on,oa1,ob1,ab,m,d,bl,oa,om,od,ys⟩):=ho.fr (Fr.of_below hb1 (fun _=>False)) (fun _ _ h=>h)
 clear h ho
 go_enter Tryz.func28,Tryz.ntmps28
 go_wp2_with fail
 refine(pays_any z s g N q col G P D Dr a b nx ⟨3,on,oa1,ob1,ab,m,d,bl,oa,om,od,ys⟩ _ HG HO hfit hq).mono ?_
 rintro e w2 ⟨rfl,hst⟩
 have HST:Hid (SOk z s g N q col G P D Dr w w2):=hst.pre hb1
 clear hst
 go_wp2
 go_ret
 exact⟨rfl,HST⟩
theorem stepB9_any (z:Nat) (s:Int) (g:Nat) (N:NPr) (q:Nat) (col:NtN) (G P D Dr:Nat) (a:PgP) (b:DgP) (nx:Nat) (o:OpD) (w:World) (hk:o.kd=9) (h:AG z s g N q col G P D Dr a b nx w) (hfit:fitZ s (g:Int)=true) (hq:q<=1048576):
 Calls Tryz.prog 28 #[.pointer (some ⟨G,0,none⟩),o.val] w fun e w'=>e=.returned (.bool true)/\SOk z s g N q col G P D Dr w w':=by
 obtain⟨kd,on,oa1,ob1,ab,m,d,bl,oa,om,od,ys⟩:=o
 simp only at hk
 subst hk
 have hb1:Below w.heap.size w (w.alloc (.cells #[.int .i64 9,.int .i64 on,.int .i64 oa1,.int .i64 ob1,.slice ab m d,.slice oa om od] 82)):=(Below.refl _ _).alloc leR _
 have HG:=hiD (h.grown hb1)
 have H0:=hiD h
 clear h
 go_enter Tryz.func28,Tryz.ntmps28
 go_wp2_with fail
 refine(balanceA_any _ HG hfit hq).mono ?_
 rintro e w2 ⟨rfl,hb2⟩
 have HST:Hid (SOk z s g N q col G P D Dr w w2):=H0.out.stay (below_blk hb1 hb2)
 clear hb2
 go_wp2
 go_ret
 exact⟨rfl,HST⟩
theorem stepAb_any (z:Nat) (s:Int) (g:Nat) (N:NPr) (q:Nat) (col:NtN) (G P D Dr:Nat) (a:PgP) (b:DgP) (nx:Nat) (o:OpD) (w:World) (hk:o.kd=4) (h:AG z s g N q col G P D Dr a b nx w) (hq:q<=1048576):
 Calls Tryz.prog 28 #[.pointer (some ⟨G,0,none⟩),o.val] w fun e w'=>e=.returned (.bool true)/\SOk z s g N q col G P D Dr w w':=by
 obtain⟨kd,on,oa1,ob1,ab,m,d,bl,oa,om,od,ys⟩:=o
 simp only at hk
 subst hk
 have hb1:Below w.heap.size w (w.alloc (.cells #[.int .i64 4,.int .i64 on,.int .i64 oa1,.int .i64 ob1,.slice ab m d,.slice oa om od] 82)):=(Below.refl _ _).alloc leR _
 obtain⟨x0,x1,x2,x3,x4,x5⟩:=six_at (vrow_new w [.int .i64 4,.int .i64 on,.int .i64 oa1,.int .i64 ob1,.slice ab m d,.slice oa om od] 82)
 have HG1:=hiD (h.grown hb1)
 have HB1:=hiD hb1
 have hXz:col w.heap.size=0:=h.nz _ leR
 have hpl:a.ps.length<=1000000000000:=by have:=h.lp.len;have:=h.ml;omega
 have hml:b.ms.length<=100000000:=by have:=h.ml;omega
 clear h hb1
 go_enter Tryz.func28,Tryz.ntmps28
 go_upto_region 11 with fail
 generalize w.alloc (.cells #[.int .i64 4,.int .i64 on,.int .i64 oa1,.int .i64 ob1,.slice ab m d,.slice oa om od] 82)=w1 at *
 generalize hX:w.heap.size=X at *
 have HXe:=hiD hX
 clear hX
 have g0:w1.cell? ⟨G,0,none⟩=some (.pointer (some ⟨P,0,none⟩)):=HG1.out.gm 0 (by simp)
 have g1:w1.cell? ⟨G,1,none⟩=some (.pointer (some ⟨D,0,none⟩)):=HG1.out.gm 1 (by simp)
 have b1:Below w1.heap.size w1 w1.drew:=(Below.refl _ _).drew
 have HG2:Hid (AG z s g N q col G P D Dr a b nx w1.drew):=HG1.out.grown b1
 have hGP:¬G=P:=fun e=>by have h1:=HG1.out.kg;rw[e,HG1.out.pg.k1] at h1;omega
 have hXP:¬X=P:=fun e=>by rw[e,HG1.out.pg.k1] at hXz;omega
 have HKA:Hid (∀ (w3:World) er,AbOk a.NP P 4 (P+1) a.vs (b.ms.length:Nat) (nx:Int) a.ps a.ks oa1 er w1.drew w3->w3.cell? ⟨G,0,none⟩=some (.pointer (some ⟨P,0,none⟩))/\w3.cell? ⟨G,1,none⟩=some (.pointer (some ⟨D,0,none⟩))/\w3.cell? ⟨X,2,none⟩=some (.int .i64 oa1)):=fun w3 er hr=>⟨hr.fr.cell (w:=w1.drew) g0 hGP,hr.fr.cell (w:=w1.drew) g1 hGP,hr.fr.cell (w:=w1.drew) x2 hXP⟩
 go_region_held3 (fun w'=>w'.cell? ⟨G,0,none⟩=some (.pointer (some ⟨P,0,none⟩))/\w'.cell? ⟨X,2,none⟩=some (.int .i64 oa1)) (go_keep) ((go_at_call 20;(with_reducible refine(pAbandon_any a.NP P s g a.v (b.bls.length:Nat) a.xs a.vl a.vs (b.ms.length:Nat) (nx:Int) a.ps a.ks oa1 w1.drew HG2.out.pg.pp hpl).mono ?_);rintro e w3 ⟨er,rfl,hr⟩;have hS9:=HKA.out _ _ hr;obtain⟨s0,s1,s2⟩:=hS9;have HR:=hiD hr;clear hr))
 have b3:Below w3.heap.size w3 w3.drew:=(Below.refl _ _).drew
 obtain⟨col1,vl',h1,hj1,hj2,hold,hj3⟩:=HG2.out.abA HR.out
 clear hj1 hj2 hj3
 have h1':=h1.grown b3
 have hcX:col1 X=0:=hold X (cell_lt (w:=w1.drew) x2) hXz
 have HD:=hiD h1'.dg.dp
 have HKB:Hid (∀ (w4:World) er2,DAbOk b.ND D (D+1) b.vm (nx:Int) b.ms oa1 er2 w3.drew w4->w4.cell? ⟨G,1,none⟩=some (.pointer (some ⟨D,0,none⟩))/\w4.cell? ⟨X,2,none⟩=some (.int .i64 oa1)):=fun w4 er2 hr2=>⟨(h1'.abB hr2).1.cell (w:=w3.drew) s1 (by rw[h1'.kg];omega),(h1'.abB hr2).1.cell (w:=w3.drew) s2 (by rw[hcX];omega)⟩
 have HFI:Hid (∀ (w4:World) er2,DAbOk b.ND D (D+1) b.vm (nx:Int) b.ms oa1 er2 w3.drew w4->er=er2/\SOk z s g N q col G P D Dr w w4):=fun w4 er2 hr2=>by
  obtain⟨e1,e2⟩:=HG2.out.abAB HR.out b3 hr2
  exact⟨e1,(e2.pre b1).pre (by rw[HXe.out];exact HB1)⟩
 clear h1 h1' hold hcX s0 g0 g1 HKA HG2 HR b1 b3 hXz hGP hXP HG1
 go_upto_region 12 with fail
 go_cut [8] (fun u wx=>u=.int .i64 er/\Hid (SOk z s g N q col G P D Dr w wx))
 case first=>
  go_region_held3 (fun w'=>w'.cell? ⟨G,1,none⟩=some (.pointer (some ⟨D,0,none⟩))/\w'.cell? ⟨X,2,none⟩=some (.int .i64 oa1)) (go_keep) ((go_at_call 69;(with_reducible refine(dAbandon_any b.ND D (D+1) b.vm (nx:Int) b.ms oa1 w3.drew HD.out hml).mono ?_);rintro e w4 ⟨er2,rfl,hr2⟩;have hS9:=HKB.out _ _ hr2;obtain⟨r1,r2⟩:=hS9;have HR2:=hiD hr2;clear hr2))
  obtain⟨ee,hso⟩:=HFI.out _ _ HR2.out
  subst ee
  have HSO:=hiD hso
  clear hso HFI HR2 HKB
  go_wp2_with fail
  go_meet
  exact⟨rfl,HSO⟩
 case rest=>
  obtain⟨rfl,HSO⟩:=hcut
  go_wp2_with (go_at_call 64;refine(num_any _ _).mono ?_;rintro e w' ⟨rfl,rfl⟩)
  go_ret
  exact⟨ret_bool (by simp),HSO⟩
def col0 (B D Dr G:Nat) (vr vc:Value) (k:Nat):Nat:=if k=B then 1 else if k=G then 6 else if k=D then 7 else if k=Dr then 13 else if vr.ownBlock=some k\/vc.ownBlock=some k then 9 else 0
theorem Game0.ag (h:Game0 w0 w s g G D Dr vr vc):∃ col a b,AG 0 s g (fun k=>k<w0.heap.size) 0 col G w0.heap.size D Dr a b 0 w:=by
 obtain⟨ar,cr,rfl,i0,_⟩:=h.own0.slice
 obtain⟨ac,cc,rfl,i1,_⟩:=h.own1.slice
 have hgi:=h.gi
 have hlt0:=fun k hk=>(h.own0.blk k hk)
 have hlt1:=fun k hk=>(h.own1.blk k hk)
 have hb0:=h.ob.1
 have hb1:=h.ob.2
 rw[adrs_len] at hgi hlt0 hb0
 rw[adrs_len] at hgi hlt1 hb1
 obtain⟨o1,o2,o3,o4⟩:=h.od
 generalize hB:w0.heap.size=B at *
 have hp:=hgi.pu
 have hc9:∀ k,((Value.slice ar 100 cr).ownBlock=some k\/(Value.slice ac 100 cc).ownBlock=some k)->B<k/\k<D:=fun k hk=>by
  rcases hk with e|e
  ·have:=hlt0 k e;have:=hb0 k e;omega
  ·have:=hlt1 k e;have:=hb1 k e;omega
 refine⟨col0 B D Dr G (.slice ar 100 cr) (.slice ac 100 cc),⟨.slice none 0 0,.slice none 0 0,.slice none 0 0,fun _=>False,[],[],[]⟩,⟨none,0,[],ar,cr,ac,cc,.slice none 0 0,[],fun _=>False⟩,⟨⟨⟨⟨hp.c0,hp.c1,hp.f0,hp.f1,hp.own,fun q hq=>hp.ext q ?_⟩,⟨(hp.ext (4,.slice none 0 0) (by simp[exE])).2.2,(hp.ext (5,.slice none 0 0) (by simp[exE])).2.2,(hp.ext (6,.int .i64 0) (by simp[exE])).2.2,(hp.ext (7,.int .i64 0) (by simp[exE])).2.2,hp.f1,OwnRec.nil _ _ _ _ _,OwnRec.nil _ _ _ _ _,fun _ h=>(by cases h),Nat.lt_succ_self _,fun _ h=>(by cases h),fun _ h=>h.elim⟩,fun _ h=>(by cases h)⟩,?_,fun _ h=>(by cases h),fun _ h=>(by cases h),fun _ h=>(by cases h),fun _ h=>h.elim⟩,⟨hgi.dc,hgi.dad i0 i1,(hgi.de (0,.int .i64 s) (by simp[deE])).2,⟨(hgi.de (5,.slice none 0 0) (by simp[deE])).2,(by have:=(hgi.de (6,.int .i64 (-1)) (by simp[deE])).2;simpa using this),hgi.dc.f4 5,hgi.dc.f4 6,OwnRec.nil _ _ _ _ _,fun _ h=>(by cases h),Nat.lt_succ_self _,fun _ h=>h.elim⟩,?_,fun _ h=>(by cases h),fun x hx=>?_,fun x hx=>?_,fun _ h=>(by cases h),fun _ h=>h.elim⟩,⟨⟨0,h.dr 0 (by simp)⟩,h.df,?_,fun j j1 j5=>?_⟩,hgi.gm,?_,hgi.lk,LkP.nil,fun _ h=>(by cases h),fun k hk=>?_,fun k hk=>⟨?_,by omega⟩,leR,leR,by omega⟩⟩
 ·simp only[List.mem_cons,List.not_mem_nil,or_false] at hq
  rcases hq with rfl|rfl<;>simp
 ·unfold col0;rw[if_pos rfl]
 ·unfold col0;rw[if_neg (by omega),if_neg (by omega),if_pos rfl]
 ·have hx':ar=some x:=hx
  subst hx'
  have h9:=hc9 x.block (Or.inl rfl)
  unfold col0
  rw[if_neg (by omega),if_neg (by omega),if_neg (by omega),if_neg (by omega),if_pos (show(Value.slice (some x) 100 cr).ownBlock=some x.block\/_ from Or.inl rfl)]
 ·have hx':ac=some x:=hx
  subst hx'
  have h9:=hc9 x.block (Or.inr rfl)
  unfold col0
  rw[if_neg (by omega),if_neg (by omega),if_neg (by omega),if_neg (by omega),if_pos (show _\/(Value.slice (some x) 100 cc).ownBlock=some x.block from Or.inr rfl)]
 ·unfold col0;rw[if_neg (by omega),if_neg (by omega),if_neg (by omega),if_pos rfl]
 ·have hj:j=1\/j=2\/j=3\/j=4\/j=5:=by omega
  refine⟨.slice none 0 0,.slice none 0 0,[],[],⟨?_,?_,OwnRec.nil _ _ _ _ _,OwnRec.nil _ _ _ _ _,rfl,leR,fun i hi=>absurd hi (Nat.not_lt_zero _),fun _ h=>(by cases h),fun _ h=>(by cases h),fun i hi=>absurd hi (Nat.not_lt_zero _)⟩⟩
  ·rcases hj with rfl|rfl|rfl|rfl|rfl
   ·exact h.dr 1 (by simp)
   ·exact h.dr 2 (by simp)
   ·exact h.dr 3 (by simp)
   ·exact h.dr 4 (by simp)
   ·exact h.dr 5 (by simp)
  ·rcases hj with rfl|rfl|rfl|rfl|rfl
   ·exact h.dr 6 (by simp)
   ·exact h.dr 7 (by simp)
   ·exact h.dr 8 (by simp)
   ·exact h.dr 9 (by simp)
   ·exact h.dr 10 (by simp)
 ·unfold col0;rw[if_neg (by omega),if_pos rfl]
 ·unfold col0
  rw[if_neg (by omega),if_neg (by omega),if_neg (by omega),if_neg (by omega),if_neg (fun e=>by have:=hc9 k e;omega)]
 ·unfold col0
  rw[if_neg (by omega),if_neg (by omega),if_neg (by omega),if_neg (by omega),if_neg (fun e=>by have:=hc9 k e;omega)]
def PyInv (s:Int) (g:Nat) (k G B:Nat) (w:World):Prop:=∃ col D Dr a b nx,AG 0 s g (fun k=>k<B) k col G B D Dr a b nx w
theorem pays_begin (s:Int) (g:Nat) (hf:fitZ s (g:Int)=true) (w:World):Calls Tryz.prog 27 #[.int .i64 s,.int .i64 (g:Int)] w fun e w'=>∃ G,e=.returned (.tuple #[.pointer (some ⟨G,0,none⟩),.bool true])/\PyInv s g 0 G w.heap.size w'/\Below w.heap.size w w':=by
 refine(begin_yes s g w hf).mono ?_
 rintro e w' ⟨G,D,Dr,vr,vc,rfl,h,hb⟩
 obtain⟨col,a,b,h2⟩:=h.ag
 exact⟨G,rfl,⟨col,D,Dr,a,b,0,h2⟩,hb⟩
abbrev Z35:Obj:=.cells #[.int .i64 0,.slice none 0 0,.slice none 0 0] 35
theorem keepS2 (v0 v1 v2:Value) (h1:G≠K) (h2:X≠K) (h:w.cell? ⟨G,i,none⟩=some x/\w.cell? ⟨X,j,none⟩=some y):
 (((w.setCell ⟨K,0,none⟩ v0).setCell ⟨K,1,none⟩ v1).setCell ⟨K,2,none⟩ v2).cell? ⟨G,i,none⟩=some x/\(((w.setCell ⟨K,0,none⟩ v0).setCell ⟨K,1,none⟩ v1).setCell ⟨K,2,none⟩ v2).cell? ⟨X,j,none⟩=some y:=by
 have hf:=fr3K w K v0 v1 v2
 exact⟨hf.cell h.1 h1,hf.cell h.2 h2⟩
theorem handI_grown (h:HandedI col w v xs) (hb:Below w.heap.size w w'):HandedI col w' v xs:=by
 have hf:Fr (fun _=>False) w w':=Fr.of_below hb _
 rcases h with h|⟨g,n,cc,rfl,h1,h2,h3,h4,h5,h6,h7⟩
 ·exact Or.inl h
 ·refine Or.inr ⟨g,n,cc,rfl,h1.fr hf (fun h=>h),h2,ltL h3 hb.size,h4,h5,⟨fun j hj=>hf.cell (h6.c2 j hj) (fun h=>h),fun j hj=>?_,h6.ng,h6.ne⟩,h7⟩
  refine(h6.hd j hj).mv hf (fun g9 hg9=>⟨fun h=>h,?_⟩)
  rcases h6.hd j hj with e|⟨g8,n8,c8,e,_,e2,_⟩
  ·rw[e] at hg9;cases hg9
  ·rw[e] at hg9;simp[Value.ownBlock] at hg9;rw[<-hg9];exact e2
theorem signs_any (z:Nat) (s:Int) (g:Nat) (N:NPr) (q:Nat) (col:NtN) (G P D Dr:Nat) (a:PgP) (b:DgP) (nx:Nat) (o:OpD) (w:World) (h:AG z s g N q col G P D Dr a b nx w) (hq:q<=1048576):
 Calls Tryz.prog 70 #[.pointer (some ⟨G,0,none⟩),o.val] w fun e w'=>e=.returned (.bool true)/\SOk z s g N q col G P D Dr w w':=by
 obtain⟨kd,on,oa1,ob1,ab,m,d,bl,oa,om,od,ys⟩:=o
 have hb1:Below w.heap.size w (w.alloc (.cells #[.int .i64 kd,.int .i64 on,.int .i64 oa1,.int .i64 ob1,.slice ab m d,.slice oa om od] 82)):=(Below.refl _ _).alloc leR _
 obtain⟨x0,x1,x2,x3,x4,x5⟩:=six_at (vrow_new w [.int .i64 kd,.int .i64 on,.int .i64 oa1,.int .i64 ob1,.slice ab m d,.slice oa om od] 82)
 have HG2:=hiD (h.grown hb1)
 have HB1:=hiD hb1
 have HXZ:Hid (col w.heap.size=0):=h.nz _ leR
 have HGD:=hiD h.lk.good
 have HLV:=hiD h.live
 have h40:b.bls.length<=40:=h.lk.len
 have hml:b.ms.length<=100000000:=by have:=h.ml;omega
 clear h hb1 x0 x1 x3 x4 x5
 go_enter Tryz.func70,Tryz.ntmps70
 go_upto_region 1 with fail
 generalize (w.alloc (.cells #[.int .i64 kd,.int .i64 on,.int .i64 oa1,.int .i64 ob1,.slice ab m d,.slice oa om od] 82))=w2 at *
 generalize hX:w.heap.size=X at *
 have HXe:=hiD hX
 clear hX
 have hX2:X<w2.heap.size:=cell_lt x2
 have g0:w2.cell? ⟨G,0,none⟩=some (.pointer (some ⟨P,0,none⟩)):=HG2.out.gm 0 (by simp)
 have HGG:Hid (col G=z+6/\G<w2.heap.size):=⟨HG2.out.kg,cell_lt g0⟩
 have bA:Below w2.heap.size w2 w2.drew:=(Below.refl _ _).drew
 have bB:Below w2.heap.size w2 ((w2.alloc Z35).drew):=(bAl _ _).drew
 have HGA:Hid (AG z s g N q col G P D Dr a b nx w2.drew):=HG2.out.grown bA
 have HGB:Hid (AG z s g N q col G P D Dr a b nx ((w2.alloc Z35).drew)):=HG2.out.grown bB
 have HSA:Hid (w2.drew.cell? ⟨G,0,none⟩=some (.pointer (some ⟨P,0,none⟩))/\w2.drew.cell? ⟨X,2,none⟩=some (.int .i64 oa1)):=⟨g0,x2⟩
 have HSB:Hid (((w2.alloc Z35).drew).cell? ⟨G,0,none⟩=some (.pointer (some ⟨P,0,none⟩))/\((w2.alloc Z35).drew).cell? ⟨X,2,none⟩=some (.int .i64 oa1)):=⟨(bB.cell (p:=⟨G,0,none⟩) HGG.out.2).trans g0,(bB.cell (p:=⟨X,2,none⟩) hX2).trans x2⟩
 have HKA:Hid (∀ (w3:World) v0 v1 v2 er,SignAG P s a b nx oa1 v0 v1 v2 er w2.drew w3->w3.cell? ⟨G,0,none⟩=some (.pointer (some ⟨P,0,none⟩))/\w3.cell? ⟨X,2,none⟩=some (.int .i64 oa1)):=fun w3 v0 v1 v2 er hr=>⟨signR_cell HGA.out hr HSA.out.1 (by rw[HGG.out.1];omega),signR_cell HGA.out hr HSA.out.2 (by rw[HXZ.out];omega)⟩
 have HKB:Hid (∀ (w3:World) v0 v1 v2 er,SignAG P s a b nx oa1 v0 v1 v2 er ((w2.alloc Z35).drew) w3->w3.cell? ⟨G,0,none⟩=some (.pointer (some ⟨P,0,none⟩))/\w3.cell? ⟨X,2,none⟩=some (.int .i64 oa1)):=fun w3 v0 v1 v2 er hr=>⟨signR_cell HGB.out hr HSB.out.1 (by rw[HGG.out.1];omega),signR_cell HGB.out hr HSB.out.2 (by rw[HXZ.out];omega)⟩
 obtain⟨K0,hK0⟩:∃ K0,w2.heap.size=K0:=⟨_,rfl⟩
 have HVZ:Hid (V3 ((w2.alloc Z35).drew) K0 (.int .i64 0) (.slice none 0 0) (.slice none 0 0)):=by rw[<-hK0];exact(V3.new w2 _ _ _ 35).grown ((Below.refl _ _).drew)
 have HKZ:Hid (col K0=0):=HG2.out.nz _ (by omega)
 have HKC:Hid (∀ (w3:World) v0 v1 v2 er,SignAG P s a b nx oa1 v0 v1 v2 er ((w2.alloc Z35).drew) w3->V3 w3 K0 (.int .i64 0) (.slice none 0 0) (.slice none 0 0)):=fun w3 v0 v1 v2 er hr=>signR_v3 HGB.out hr HVZ.out HKZ.out
 have HYA1:Hid (∀ (w3:World) v0 v1 v2 er,SignAG P s a b nx oa1 v0 v1 v2 er w2.drew w3->∃ col1 a1,TA z s g N q col G P D Dr a b nx oa1 w2 col1 a1 w3.heap.size v0 v1 v2 er (w3.alloc (.cells #[v0,v1,v2] 35))):=fun w3 v0 v1 v2 er hr=>(HG2.out.ta1 bA hr).1
 have HYA2:Hid (∀ (w3:World) v0 v1 v2 er,SignAG P s a b nx oa1 v0 v1 v2 er ((w2.alloc Z35).drew) w3->∃ col1 a1,TA z s g N q col G P D Dr a b nx oa1 w2 col1 a1 K0 v0 v1 v2 er (((w3.setCell ⟨K0,0,none⟩ v0).setCell ⟨K0,1,none⟩ v1).setCell ⟨K0,2,none⟩ v2)):=fun w3 v0 v1 v2 er hr=>(HG2.out.ta1 bB hr).2 K0 (by omega) (by rw[World.size_drew,World.size_alloc];omega) ⟨_,_,_,HVZ.out⟩
 have hGn:G≠K0:=by have:=HGG.out.2;omega
 have hXn:X≠K0:=by omega
 go_cut [5,6] (fun uk uf wx=>∃ (col1:NtN) (a1:PgP) (K:Nat) (t:Int) (ai:OAd) (ni ci:Nat) (ap:OAd) (np cp:Nat) (er:Int),uk=.pointer (some ⟨K,0,none⟩)/\uf=.int .i64 er/\Hid (TA z s g N q col G P D Dr a b nx oa1 w2 col1 a1 K (.int .i64 t) (.slice ai ni ci) (.slice ap np cp) er wx))
 case first=>
  clear bA bB HB1
  have hGl2:G<K0:=by have:=HGG.out.2;omega
  have hXl2:X<K0:=by omega
  clear HXe HG2 hX2
  go_region_held3 (fun w'=>w'.cell? ⟨G,0,none⟩=some (.pointer (some ⟨P,0,none⟩))/\w'.cell? ⟨X,2,none⟩=some (.int .i64 oa1)) (first|go_keep|exact keepS2 _ _ _ hGn hXn ⟨s1,s2⟩) (first|(go_at_call 13;(with_reducible refine(signS_any oa1 w2.drew HGA.out hq).mono ?_);rintro e w3 ⟨t,ai,ni,ci,ap,np,cp,er,rfl,hpayA⟩;have hS9:=HKA.out _ _ _ _ _ hpayA;obtain⟨s1,s2⟩:=hS9;have hGw:G<w3.heap.size:=cell_lt s1;have hXw:X<w3.heap.size:=cell_lt s2;have HPA:=hiD hpayA;clear hpayA)|(go_at_call 13;(with_reducible refine(signS_any oa1 ((w2.alloc Z35).drew) HGB.out hq).mono ?_);rintro e w3 ⟨t,ai,ni,ci,ap,np,cp,er,rfl,hpayB⟩;have hS9:=HKB.out _ _ _ _ _ hpayB;obtain⟨s1,s2⟩:=hS9;obtain⟨k0,k1,k2,kz⟩:=HKC.out _ _ _ _ _ hpayB;have kf0:=kz 0;have kf1:=kz 1;have kf2:=kz 2;have HPB:=hiD hpayB;clear kz hpayB))
  all_goals first
   | (have hya:=HYA1.out _ _ _ _ _ HPA.out
      obtain⟨col1,a1,hya⟩:=hya
      have HYA:=hiD hya
      clear hya
      go_wp2_with fail
      go_meet
      exact⟨col1,a1,w3.heap.size,t,ai,ni,ci,ap,np,cp,er,rfl,rfl,HYA⟩)
   | (have hya:=HYA2.out _ _ _ _ _ HPB.out
      obtain⟨col1,a1,hya⟩:=hya
      have HYA:=hiD hya
      clear hya
      go_wp2_with fail
      go_meet
      exact⟨col1,a1,K0,t,ai,ni,ci,ap,np,cp,er,rfl,rfl,HYA⟩)
 case rest=>
  obtain⟨col1,a1,K,t,ai,ni,ci,ap,np,cp,er,rfl,rfl,hya⟩:=hcut
  clear HGA HGB HSA HSB HKA HKB HVZ HKZ HKC HYA1 HYA2 g0 bA bB hGn hXn
  have HYA:=hiD hya.out
  clear hya
  have z2:=HYA.out.fr.cell x2 (fun e=>by have e':z<col X/\col X<=z+24:=e;rw[HXZ.out] at e';omega)
  have hX6:X<wc.heap.size:=cell_lt z2
  have g1:wc.cell? ⟨G,1,none⟩=some (.pointer (some ⟨D,0,none⟩)):=HYA.out.s1.gm 1 (by simp)
  have hG6:G<wc.heap.size:=cell_lt g1
  have bA:Below wc.heap.size wc wc.drew:=(Below.refl _ _).drew
  have bB:Below wc.heap.size wc ((wc.alloc Z35).drew):=(bAl _ _).drew
  have HSSA:Hid (S1 z s g N (13*q) col1 G P D Dr a1 b nx (b.ms.length:Nat) (nx:Int) wc.drew):=HYA.out.s1.grown bA
  have HSSB:Hid (S1 z s g N (13*q) col1 G P D Dr a1 b nx (b.ms.length:Nat) (nx:Int) ((wc.alloc Z35).drew)):=HYA.out.s1.grown bB
  have HCX:Hid (col1 X=0/\col1 G=z+6):=⟨HYA.out.old X hX2 HXZ.out,HYA.out.s1.kg⟩
  obtain⟨K1,hK1⟩:∃ K1,wc.heap.size=K1:=⟨_,rfl⟩
  have HVZ:Hid (V3 ((wc.alloc Z35).drew) K1 (.int .i64 0) (.slice none 0 0) (.slice none 0 0)):=by rw[<-hK1];exact(V3.new wc _ _ _ 35).grown ((Below.refl _ _).drew)
  have HKZ:Hid (col1 K1=0):=HYA.out.s1.nz _ (by omega)
  have HKA:Hid (∀ (w3:World) v0 v1 v2 er2,DSgOk b.ND D (D+1) b.vm (nx:Int) b.ms b.bls s oa1 v0 v1 v2 er2 wc.drew w3->w3.cell? ⟨G,1,none⟩=some (.pointer (some ⟨D,0,none⟩))/\w3.cell? ⟨X,2,none⟩=some (.int .i64 oa1)):=fun w3 v0 v1 v2 er2 hr=>⟨dsignR_cell HSSA.out hr g1 (by rw[HCX.out.2];omega),dsignR_cell HSSA.out hr z2 (by rw[HCX.out.1];omega)⟩
  have HKB:Hid (∀ (w3:World) v0 v1 v2 er2,DSgOk b.ND D (D+1) b.vm (nx:Int) b.ms b.bls s oa1 v0 v1 v2 er2 ((wc.alloc Z35).drew) w3->w3.cell? ⟨G,1,none⟩=some (.pointer (some ⟨D,0,none⟩))/\w3.cell? ⟨X,2,none⟩=some (.int .i64 oa1)):=fun w3 v0 v1 v2 er2 hr=>⟨dsignR_cell HSSB.out hr ((bB.cell (p:=⟨G,1,none⟩) hG6).trans g1) (by rw[HCX.out.2];omega),dsignR_cell HSSB.out hr ((bB.cell (p:=⟨X,2,none⟩) hX6).trans z2) (by rw[HCX.out.1];omega)⟩
  have HKC:Hid (∀ (w3:World) v0 v1 v2 er2,DSgOk b.ND D (D+1) b.vm (nx:Int) b.ms b.bls s oa1 v0 v1 v2 er2 ((wc.alloc Z35).drew) w3->V3 w3 K1 (.int .i64 0) (.slice none 0 0) (.slice none 0 0)):=fun w3 v0 v1 v2 er2 hr=>dsignR_v3 HSSB.out hr HVZ.out (by rw[HKZ.out];omega)
  have HYB1:Hid (∀ (w3:World) v0 v1 v2 er2,DSgOk b.ND D (D+1) b.vm (nx:Int) b.ms b.bls s oa1 v0 v1 v2 er2 wc.drew w3->∃ b1,TB z s g N q col G P D Dr a b nx oa1 w2 col1 a1 b1 K (.int .i64 t) (.slice ai ni ci) (.slice ap np cp) er w3.heap.size v0 v1 v2 er2 (w3.alloc (.cells #[v0,v1,v2] 35))):=fun w3 v0 v1 v2 er2 hr=>(HYA.out.tb1 bA hr).1
  have HYB2:Hid (∀ (w3:World) v0 v1 v2 er2,DSgOk b.ND D (D+1) b.vm (nx:Int) b.ms b.bls s oa1 v0 v1 v2 er2 ((wc.alloc Z35).drew) w3->∃ b1,TB z s g N q col G P D Dr a b nx oa1 w2 col1 a1 b1 K (.int .i64 t) (.slice ai ni ci) (.slice ap np cp) er K1 v0 v1 v2 er2 (((w3.setCell ⟨K1,0,none⟩ v0).setCell ⟨K1,1,none⟩ v1).setCell ⟨K1,2,none⟩ v2)):=fun w3 v0 v1 v2 er2 hr=>(HYA.out.tb1 bB hr).2 K1 (by omega) (by rw[World.size_drew,World.size_alloc];omega) ⟨_,_,_,HVZ.out⟩
  have hGl2:G<K1:=by omega
  have hXl2:X<K1:=by omega
  have hGn:G≠K1:=by omega
  have hXn:X≠K1:=by omega
  go_upto_region 2 with fail
  go_cut [7,8] (fun uk uf wx=>∃ (b1:DgP) (K2:Nat) (t2:Int) (bi:OAd) (mi di:Nat) (bp:OAd) (mp dp:Nat) (er2:Int),uk=.pointer (some ⟨K2,0,none⟩)/\uf=.int .i64 er2/\Hid (TB z s g N q col G P D Dr a b nx oa1 w2 col1 a1 b1 K (.int .i64 t) (.slice ai ni ci) (.slice ap np cp) er K2 (.int .i64 t2) (.slice bi mi di) (.slice bp mp dp) er2 wx))
  case first=>
   clear bA bB HB1 HXe HG2 hX2
   go_region_held3 (fun w'=>w'.cell? ⟨G,1,none⟩=some (.pointer (some ⟨D,0,none⟩))/\w'.cell? ⟨X,2,none⟩=some (.int .i64 oa1)) (first|go_keep|exact keepS2 _ _ _ hGn hXn ⟨s1,s2⟩) (first|(go_at_call 119;(with_reducible refine(dSignS_any oa1 wc.drew HSSA.out HGD.out h40 hml HLV.out).mono ?_);rintro e w3 ⟨t2,bi,mi,di,bp,mp,dp,er2,rfl,hpayA⟩;have hS9:=HKA.out _ _ _ _ _ hpayA;obtain⟨s1,s2⟩:=hS9;have hGw:G<w3.heap.size:=cell_lt s1;have hXw:X<w3.heap.size:=cell_lt s2;have HPA:=hiD hpayA;clear hpayA)|(go_at_call 119;(with_reducible refine(dSignS_any oa1 ((wc.alloc Z35).drew) HSSB.out HGD.out h40 hml HLV.out).mono ?_);rintro e w3 ⟨t2,bi,mi,di,bp,mp,dp,er2,rfl,hpayB⟩;have hS9:=HKB.out _ _ _ _ _ hpayB;obtain⟨s1,s2⟩:=hS9;obtain⟨k0,k1,k2,kz⟩:=HKC.out _ _ _ _ _ hpayB;have kf0:=kz 0;have kf1:=kz 1;have kf2:=kz 2;have HPB:=hiD hpayB;clear kz hpayB))
   all_goals first
    | (have hyb:=HYB1.out _ _ _ _ _ HPA.out
       obtain⟨b1,hyb⟩:=hyb
       have HYB:=hiD hyb
       clear hyb
       go_wp2_with fail
       go_meet
       exact⟨b1,w3.heap.size,t2,bi,mi,di,bp,mp,dp,er2,rfl,rfl,HYB⟩)
    | (have hyb:=HYB2.out _ _ _ _ _ HPB.out
       obtain⟨b1,hyb⟩:=hyb
       have HYB:=hiD hyb
       clear hyb
       go_wp2_with fail
       go_meet
       exact⟨b1,K1,t2,bi,mi,di,bp,mp,dp,er2,rfl,rfl,HYB⟩)
  case rest=>
   obtain⟨b1,K2,t2,bi,mi,di,bp,mp,dp,er2,rfl,rfl,hyb⟩:=hcut
   clear HSSA HSSB HKA HKB HVZ HKZ HKC HYB1 HYB2 hK1 g1 bA bB z2 HYA hGl2 hXl2 hGn hXn HCX hX6 hG6
   have hyb':=hyb.out
   clear hyb
   obtain⟨xs,ys',zs,hsm⟩:=TB.same HG2.out hyb'
   obtain rfl:=hsm.ee
   obtain rfl:=hsm.et
   obtain rfl:=hsm.ei
   obtain rfl:=hsm.ep
   have HSM:=hiD hsm
   have HYB:=hiD hyb'
   clear hsm hyb'
   have hni:=HSM.out.b1
   have hnp:=HSM.out.b2
   have HXL:=hiD HSM.out.l1
   obtain⟨a0,a1',a2,_⟩:=HYB.out.vb
   obtain⟨c0,c1,c2,_⟩:=HYB.out.vb2
   go_wp2_with fail
   refine(sameTx_any t ai bi ni ci di xs ys' ap bp np cp dp zs _ HSM.out.i1 HSM.out.i2 HSM.out.l1 HSM.out.l2 HSM.out.st (by omega) HSM.out.o1 HSM.out.o2 HSM.out.lz (by omega)).mono ?_
   rintro e w9 ⟨rfl,hb9⟩
   have b9d:Below wc.heap.size wc w9.drew:=hb9.trans ((Below.refl _ _).drew)
   have HYB9:Hid (TB z s g N q col G P D Dr a b nx oa1 w2 col1 a1 b1 K (.int .i64 t) (.slice ai ni ci) (.slice ap np cp) er K2 (.int .i64 t) (.slice bi ni di) (.slice bp np dp) er w9.drew):=HYB.out.grown b9d
   have HHI:Hid (HandedI col1 w9.drew (.slice ai ni ci) xs):=handI_grown HSM.out.hi b9d
   have HHO:Hid (Handed 2 col1 w9.drew (.slice ap np cp)):=HSM.out.ho.mv (Fr.of_below b9d (fun _=>False)) (fun g9 hg9=>⟨fun h=>h,(HSM.out.nw g9 (Or.inr hg9)).1⟩)
   have HNE:=hiD HSM.out.ne
   have HLS:=hiD HSM.out.nw
   have hKc:K<wc.heap.size:=cell_lt a0
   have k0:=(hb9.cell (p:=⟨K,0,none⟩) hKc).trans a0
   have k1:=(hb9.cell (p:=⟨K,1,none⟩) hKc).trans a1'
   have k2:=(hb9.cell (p:=⟨K,2,none⟩) hKc).trans a2
   have g2:w9.cell? ⟨G,2,none⟩=some (.pointer (some ⟨Dr,0,none⟩)):=HYB9.out.s1.gm 2 (by simp)
   have HDR9:=hiD HYB9.out.s1.dr
   have HNZ9:=hiD HYB9.out.s1.nz
   have HKE:Hid (∀ (w10:World) k o v,KeptM col1 z Dr (13*q) (xs.length+2) (fun k=>((Value.slice ai ni ci).ownBlock=some k\/sealsB xs xs.length k)\/(Value.slice ap np cp).ownBlock=some k) w9.drew w10->w9.drew.cell? ⟨k,o,none⟩=some v->(k=G\/k=K)->w10.cell? ⟨k,o,none⟩=some v):=fun w10 k o v hk hc hkk=>by
    obtain⟨c3,_,_,x3,_⟩:=hk
    refine x3.cell hc (fun e=>?_)
    have hcG:=HYB9.out.s1.kg
    have hcK:=HYB9.out.kk.1
    rcases e with e|e
    ·rcases hkk with rfl|rfl<;>omega
    ·have:=HLS.out k e
     rcases hkk with rfl|rfl<;>omega
   have hq18:13*q<=18000000:=by omega
   have hml10:xs.length<=1000:=by have:=HXL.out;omega
   clear a0 a1' a2 c0 c1 c2 hb9 HYB HSM
   go_upto_region 4 with fail
   go_region_held3 (fun w'=>w'.cell? ⟨G,2,none⟩=some (.pointer (some ⟨Dr,0,none⟩))/\w'.cell? ⟨K,0,none⟩=some (.int .i64 t)/\w'.cell? ⟨K,1,none⟩=some (.slice ai ni ci)/\w'.cell? ⟨K,2,none⟩=some (.slice ap np cp)) (go_keep) ((go_at_call 116;(with_reducible refine(keepTx_any col1 z Dr (13*q) t ai ni ci xs ap np cp w9.drew HDR9.out HNZ9.out HHI.out HHO.out HNE.out hml10 hq18).mono ?_);rintro e w10 ⟨rfl,hk10⟩;have s1:=HKE.out w10 G 2 _ hk10 g2 (Or.inl rfl);have s2:=HKE.out w10 K 0 _ hk10 k0 (Or.inr rfl);have s3:=HKE.out w10 K 1 _ hk10 k1 (Or.inr rfl);have s4:=HKE.out w10 K 2 _ hk10 k2 (Or.inr rfl);have HK10:=hiD hk10;clear hk10))
   have HFIN:Hid (SOk z s g N q col G P D Dr w w10):=TB.done (by rw[HXe.out];exact HB1) HG2 HYB9 HK10 (by have:=HXL.out;omega) (fun k hk=>⟨(HLS k hk).1,(HLS k hk).2.2⟩)
   clear HK10 HKE g2 k0 k1 k2 HDR9 HHI HHO HNE HNZ9 HYB9
   go_wp2_with (go_at_call 64;refine(num_any _ _).mono ?_;rintro e w' ⟨rfl,rfl⟩)
   go_ret
   exact⟨ret_bool (by simp),HFIN⟩
theorem stepSg_any (z:Nat) (s:Int) (g:Nat) (N:NPr) (q:Nat) (col:NtN) (G P D Dr:Nat) (a:PgP) (b:DgP) (nx:Nat) (o:OpD) (w:World) (hk:o.kd=5) (h:AG z s g N q col G P D Dr a b nx w) (hq:q<=1048576):
 Calls Tryz.prog 28 #[.pointer (some ⟨G,0,none⟩),o.val] w fun e w'=>e=.returned (.bool true)/\SOk z s g N q col G P D Dr w w':=by
 obtain⟨kd,on,oa1,ob1,ab,m,d,bl,oa,om,od,ys⟩:=o
 simp only at hk
 subst hk
 have hb1:Below w.heap.size w (w.alloc (.cells #[.int .i64 5,.int .i64 on,.int .i64 oa1,.int .i64 ob1,.slice ab m d,.slice oa om od] 82)):=(Below.refl _ _).alloc leR _
 have HG:=hiD (h.grown hb1)
 clear h
 go_enter Tryz.func28,Tryz.ntmps28
 go_wp2_with fail
 refine(signs_any z s g N q col G P D Dr a b nx ⟨5,on,oa1,ob1,ab,m,d,bl,oa,om,od,ys⟩ _ HG hq).mono ?_
 rintro e w2 ⟨rfl,hst⟩
 have HST:Hid (SOk z s g N q col G P D Dr w w2):=hst.pre hb1
 clear hst
 go_wp2
 go_ret
 exact⟨rfl,HST⟩
end
end Go.Proofs.YtffgpepngcnjeabGreat
