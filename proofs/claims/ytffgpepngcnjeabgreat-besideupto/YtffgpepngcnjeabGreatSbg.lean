import Derived.Test.YtffgpepngcnjeabGreatSav
namespace Go.Proofs.YtffgpepngcnjeabGreat
set_option maxRecDepth 100000
set_option maxHeartbeats 16000000
section
open Go.RowKit
variable {E F N:NPr} {a b c w w' wx wy w1:World} {p q P K g B C T base n4 c4 g1 n1 k1:Nat} {x y u0 u1 u2 v vl vs vi vo vk:Value} {s h md nx tag ch4 ch:Int} {xs:List Cel} {ps:List PayD} {ks zs:LII} {cs:List CoinD} {a4 ao:OAd}
theorem Fr.trans_new2 (h:Fr E a b) (k:Fr F b c) (hF:∀ q,F q->a.heap.size<=q):Fr E a c:=
 ⟨k.os.trans h.os,k.tape.trans h.tape,k.output.trans h.output,leT h.size k.size,fun i hi he=>(k.block i (ltL hi h.size) (fun e=>by have:=hF i e;omega)).trans (h.block i hi he)⟩
theorem keepB2 {a b:Nat} (hb:Below w.heap.size w w') (h:w.cell? ⟨a,p,none⟩=some x/\w.cell? ⟨b,q,none⟩=some y):w'.cell? ⟨a,p,none⟩=some x/\w'.cell? ⟨b,q,none⟩=some y:=
 ⟨(hb.cell (p:=⟨a,p,none⟩) (cell_lt h.1)).trans h.1,(hb.cell (p:=⟨b,q,none⟩) (cell_lt h.2)).trans h.2⟩
theorem keepS3 (hne:P≠K) (h:w.cell? ⟨P,0,none⟩=some x/\w.cell? ⟨P,1,none⟩=some y):(((w.setCell ⟨K,0,none⟩ u0).setCell ⟨K,1,none⟩ u1).setCell ⟨K,2,none⟩ u2).cell? ⟨P,0,none⟩=some x/\(((w.setCell ⟨K,0,none⟩ u0).setCell ⟨K,1,none⟩ u1).setCell ⟨K,2,none⟩ u2).cell? ⟨P,1,none⟩=some y:=
 ⟨sob (sob (sob h.1 hne) hne) hne,sob (sob (sob h.2 hne) hne) hne⟩
theorem target_pos (ys:LII) (r:Int) (hr:0<=r) (h0:0<ys.length) (hb:∀ y∈ys,10<=y.2):0<targetZ ys r:=by
 unfold targetZ
 have h2:0<=r*(3+2*(ys.length:Int)):=Int.mul_nonneg hr (by omega)
 have h3:∀ l:LII,(∀ y∈l,10<=y.2)->10*(l.length:Int)<=(l.map Prod.snd).sum:=by
  intro l
  induction l with
  |nil=>intro _;simp
  |cons x t ih=>
   intro hl
   have h4:=ih (fun y hy=>hl y (List.mem_cons_of_mem _ hy))
   have h5:=hl x List.mem_cons_self
   simp only[List.length_cons,List.map_cons,List.sum_cons]
   push_cast
   omega
 have h4:=h3 ys hb
 unfold sumOu
 omega
structure PMid (N:NPr) (P:Nat) (s:Int) (g:Nat) (v:Value) (h:Int) (xs:List Cel) (vl vs:Value) (md nx:Int) (ps:List PayD) (ks:LII) (tag:Int) (cs:List CoinD) (B C T base:Nat) (a4:OAd) (n4 c4:Nat) (ch4:Int) (vi vo vk:Value) (zs:LII) (ch:Int) (w wx:World):Prop where
 pp:PP N wx P s g v h xs vl vs md nx ps ks
 rb:VB wx B (.int .i64 0) (.int .i64 0) (.slice none 0 0) (.slice none 0 0) (.slice none 0 0) (.int .i64 0)
 tb:VB wx T (.int .i64 0) (.int .i64 tag) vi vo vk (.int .i64 ch)
 pd:PdOk base vi vo vk cs zs cs wx
 c0:wx.cell? ⟨C,0,none⟩=some (.slice a4 n4 c4)
 c1:wx.cell? ⟨C,1,none⟩=some (.int .i64 ch4)
 o4:OwnRec CoinD.l 107 6 wx (B+1) (.slice a4 n4 c4) cs
 bl:Below B w wx
 lo:∀ k,(chE P v k\/lsE P vl vs k\/N k)->k<B
 o4b:∀ k,(Value.slice a4 n4 c4).ownBlock=some k->k<base
 lt:B<base/\C<base/\B<C/\base<=T
 pT:∀ k,(vi.ownBlock=some k\/vo.ownBlock=some k\/vk.ownBlock=some k)->k≠T
theorem PMid.grown (u:PMid N P s g v h xs vl vs md nx ps ks tag cs B C T base a4 n4 c4 ch4 vi vo vk zs ch w wx) (hb:Below wx.heap.size wx wy):PMid N P s g v h xs vl vs md nx ps ks tag cs B C T base a4 n4 c4 ch4 vi vo vk zs ch w wy:=
 ⟨u.pp.grown hb,u.rb.grown hb,u.tb.grown hb,u.pd.grown hb,(hb.cell (p:=⟨C,0,none⟩) (cell_lt u.c0)).trans u.c0,(hb.cell (p:=⟨C,1,none⟩) (cell_lt u.c1)).trans u.c1,u.o4.grown hb,u.bl.trans (hb.mono (by have:B<wx.heap.size:=cell_lt u.rb.c0;omega)),u.lo,u.o4b,u.lt,u.pT⟩
theorem PMid.setC (u:PMid N P s g v h xs vl vs md nx ps ks tag cs B C T base a4 n4 c4 ch4 vi vo vk zs ch w wx) (x:Int):PMid N P s g v h xs vl vs md nx ps ks tag cs B C T base a4 n4 c4 ch4 vi vo vk zs x w (wx.setCell ⟨T,5,none⟩ (.int .i64 x)):=by
 have hf:Fr (fun k=>k=T) wx (wx.setCell ⟨T,5,none⟩ (.int .i64 x)):=(Fr.refl _ wx).set T 5 _ (fun _=>rfl)
 have hlt:=u.lt
 exact⟨u.pp.fr hf (fun k hk e=>by have:=u.lo k (Or.inl hk);omega) (fun k hk e=>by have:=u.lo k (Or.inr (Or.inl hk));omega) (fun k hk e=>by have:=u.lo k (Or.inr (Or.inr hk));omega),u.rb.fr hf (by omega),u.tb.s5 _,⟨own_set u.pd.oi _ _ _ (fun e=>u.pT _ (Or.inl e) rfl),own_set u.pd.oo _ _ _ (fun e=>u.pT _ (Or.inr (Or.inl e)) rfl),own_set u.pd.ok _ _ _ (fun e=>u.pT _ (Or.inr (Or.inr e)) rfl),u.pd.n1,u.pd.n2⟩,hf.cell u.c0 (by omega),hf.cell u.c1 (by omega),own_set u.o4 _ _ _ (fun e=>by have:=u.o4b _ e;omega),u.bl.setCell (p:=⟨T,5,none⟩) (by show B<=T;omega) _,u.lo,u.o4b,u.lt,u.pT⟩
theorem PMid.pushO (u:PMid N P s g v h xs vl vs md nx ps ks tag cs B C T base a4 n4 c4 ch4 vi vo vk zs ch w wx) {y:Int×Int} (hown:OwnRec kV 93 2 w1 base (.slice (some ⟨g1,0,none⟩) n1 k1) (zs++[y])) (hg:wx.grownBy w1 vo.ownBlock) (hl:vo.ownBlock=some g1\/wx.heap.size<=g1):
 PMid N P s g v h xs vl vs md nx ps ks tag cs B C T base a4 n4 c4 ch4 vi (.slice (some ⟨g1,0,none⟩) n1 k1) vk (zs++[y]) ch w (w1.setCell ⟨T,3,none⟩ (.slice (some ⟨g1,0,none⟩) n1 k1)):=by
 have hlt:=u.lt
 have hTl:T<wx.heap.size:=cell_lt u.tb.c0
 have hvob:∀ k,vo.ownBlock=some k->base<=k/\k≠T:=fun k hk=>⟨(u.pd.oo.blk k hk).1,u.pT k (Or.inr (Or.inl hk))⟩
 have hf1:Fr (fun k=>vo.ownBlock=some k) wx w1:=Fr.of_gb hg (fun _ hk _=>hk)
 have hf2:Fr (fun k=>k=T) w1 (w1.setCell ⟨T,3,none⟩ (.slice (some ⟨g1,0,none⟩) n1 k1)):=(Fr.refl _ w1).set T 3 _ (fun _=>rfl)
 have hf:Fr (fun k=>vo.ownBlock=some k\/k=T) wx (w1.setCell ⟨T,3,none⟩ (.slice (some ⟨g1,0,none⟩) n1 k1)):=(hf1.weak (fun _ _ e=>Or.inl e)).trans (hf2.weak (fun _ _ e=>Or.inr e))
 have hlow:∀ k,k<base->¬(vo.ownBlock=some k\/k=T):=fun k hk e=>by
  rcases e with e|e
  ·have:=(hvob k e).1;omega
  ·omega
 have hg1:g1≠T:=by
  rcases hl with e|e
  ·exact(hvob _ e).2
  ·omega
 have hpd:=u.pd.pushO hown hg hl
 refine⟨u.pp.fr hf (fun k hk=>hlow k (by have:=u.lo k (Or.inl hk);omega)) (fun k hk=>hlow k (by have:=u.lo k (Or.inr (Or.inl hk));omega)) (fun k hk=>hlow k (by have:=u.lo k (Or.inr (Or.inr hk));omega)),u.rb.fr hf (hlow _ hlt.1),(u.tb.fr hf1 (fun e=>(hvob _ e).2 rfl)).s3 _,⟨own_set hpd.oi _ _ _ (fun e=>u.pT _ (Or.inl e) rfl),own_set hpd.oo _ _ _ (fun e=>by simp[Value.ownBlock] at e;exact hg1 e),own_set hpd.ok _ _ _ (fun e=>u.pT _ (Or.inr (Or.inr e)) rfl),hpd.n1,hpd.n2⟩,hf.cell u.c0 (hlow _ hlt.2.1),hf.cell u.c1 (hlow _ hlt.2.1),hf.own u.o4 (fun k hk=>hlow k (u.o4b k hk)),u.bl.trans (hf.toBelow B (by omega) (fun k hk=>?_)),u.lo,u.o4b,u.lt,fun k hk=>?_⟩
 ·rcases hk with e|e
  ·have:=(hvob k e).1;omega
  ·omega
 ·rcases hk with e|e|e
  ·exact u.pT k (Or.inl e)
  ·simp[Value.ownBlock] at e
   rw[<-e];exact hg1
  ·exact u.pT k (Or.inr (Or.inr e))
theorem inC_ins (h:RecAt inC w ao cs):InsAt w ao (cs.map CoinD.inD):=by
 rcases h with h|⟨b,off,e,hr⟩
 ·rw[h];exact Or.inl rfl
 ·refine Or.inr ⟨b,off,e,fun j hj=>?_⟩
  rw[List.length_map] at hj
  have eg:(cs.map CoinD.inD).getD j dIn=(cs.getD j dN).inD:=by simp[List.getD,hj]
  rw[eg]
  exact⟨⟨rcell inC3 dN hr j hj 0 (by omega),rcell inC3 dN hr j hj 1 (by omega),rcell inC3 dN hr j hj 2 (by omega)⟩,⟨Or.inl rfl,rfl,by show(0:Nat)<=_;omega,fun _=>rfl⟩⟩
theorem pay_any (N:NPr) (P:Nat) (s:Int) (g:Nat) (v:Value) (h:Int) (xs:List Cel) (vl vs:Value) (md nx:Int) (ps:List PayD) (ks:LII) (ap:OAd) (m d:Nat) (ys:LII) (r tag:Int) (w:World) (hs:Mk.isM s=true) (hg:1<=g) (hg2:g<=20)
 (u:PP N w P s g v h xs vl vs md nx ps ks) (hxl:xs.length<=5000) (hV:Vals xs) (hy:OutsAt w ap ys) (hyn:ys.length=m) (hmd:0<=md/\md<=4611686018427387904) (hpl:ps.length<=1000000000000) (hkl:ks.length<=1000000000000):
 Calls Tryz.prog 34 #[.pointer (some ⟨P,0,none⟩),.slice ap m d,.int .i64 r,.int .i64 tag] w fun e w'=>∃ a0 a1 a2 a3 a4 a5 er,e=.returned (.tuple #[.agg #[a0,a1,a2,a3,a4,a5],.int .i64 er])/\PayOkR N P s g v h xs vl vs md nx ps ks ys r tag a0 a1 a2 a3 a4 a5 er w w':=by
 have HU:=hiD u
 have HV0:=hiD hV
 have HY:=hiD hy
 have HYN:=hiD hyn
 have hPl:P<w.heap.size:=cell_lt u.pu.c0
 clear u hV hy hyn
 have hbA:Below w.heap.size w (w.alloc (.cells #[.int .i64 0,.int .i64 0,.slice none 0 0,.slice none 0 0,.slice none 0 0,.int .i64 0] 38)):=(Below.refl _ _).alloc leR _
 have HR0:Hid (VB (w.alloc (.cells #[.int .i64 0,.int .i64 0,.slice none 0 0,.slice none 0 0,.slice none 0 0,.int .i64 0] 38)) w.heap.size (.int .i64 0) (.int .i64 0) (.slice none 0 0) (.slice none 0 0) (.slice none 0 0) (.int .i64 0)):=VB.new w _ _ _ _ _ _ 38
 go_enter Tryz.func34,Tryz.ntmps34
 go_upto_region 1 with fail
 have HU0:=hiD (HU.out.grown hbA)
 have HY0:=hiD (HY.out.grown hbA)
 have HB0:=hiD hbA
 have hz0:w.heap.size<(w.alloc (.cells #[.int .i64 0,.int .i64 0,.slice none 0 0,.slice none 0 0,.slice none 0 0,.int .i64 0] 38)).heap.size:=by simp
 clear hbA
 generalize w.alloc (.cells #[.int .i64 0,.int .i64 0,.slice none 0 0,.slice none 0 0,.slice none 0 0,.int .i64 0] 38)=w0 at *
 generalize hB:w.heap.size=B at *
 have HBe:=hiD hB
 clear hB HY
 by_cases hr1:r<0
 ·have HZ:Hid (payZ xs s g ps ks nx ys r tag=.inl 1):=by show _=_;unfold payZ;rw[if_pos (Or.inl hr1)]
  obtain⟨q0,q1,q2,q3,q4,q5,qz⟩:=HR0.out
  have f0:=qz 0
  have f1:=qz 1
  have f2:=qz 2
  have f3:=qz 3
  have f4:=qz 4
  have f5:=qz 5
  have HV:Hid _:=(((((HR0.out.s0 (.int .i64 0)).s1 (.int .i64 0)).s2 (.slice none 0 0)).s3 (.slice none 0 0)).s4 (.slice none 0 0)).s5 (.int .i64 0)
  have HBF:Hid _:=((((((HB0.out.setCell (p:=⟨B,0,none⟩) leR (.int .i64 0)).setCell (p:=⟨B,1,none⟩) leR (.int .i64 0)).setCell (p:=⟨B,2,none⟩) leR (.slice none 0 0)).setCell (p:=⟨B,3,none⟩) leR (.slice none 0 0)).setCell (p:=⟨B,4,none⟩) leR (.slice none 0 0)).setCell (p:=⟨B,5,none⟩) leR (.int .i64 0))
  clear qz
  go_wp2
  obtain⟨z0,z1,z2,z3,z4,z5,_⟩:=HV.out
  refine bodyPost_ret (v:=.tuple #[.agg #[.int .i64 0,.int .i64 0,.slice none 0 0,.slice none 0 0,.slice none 0 0,.int .i64 0],.int .i64 1]) ?_ rfl ⟨_,_,_,_,_,_,_,rfl,?_⟩
  ·simp[results,Tryz.results34,go_sem,z0,z1,z2,z3,z4,z5]
  ·exact Or.inl ⟨_,HZ,rfl,rfl,rfl,rfl,rfl,rfl,rfl,by rw[HBe.out];exact HBF⟩
 by_cases hr2:1000<r
 ·have HZ:Hid (payZ xs s g ps ks nx ys r tag=.inl 1):=by show _=_;unfold payZ;rw[if_pos (Or.inr (Or.inl hr2))]
  obtain⟨q0,q1,q2,q3,q4,q5,qz⟩:=HR0.out
  have f0:=qz 0
  have f1:=qz 1
  have f2:=qz 2
  have f3:=qz 3
  have f4:=qz 4
  have f5:=qz 5
  have HV:Hid _:=(((((HR0.out.s0 (.int .i64 0)).s1 (.int .i64 0)).s2 (.slice none 0 0)).s3 (.slice none 0 0)).s4 (.slice none 0 0)).s5 (.int .i64 0)
  have HBF:Hid _:=((((((HB0.out.setCell (p:=⟨B,0,none⟩) leR (.int .i64 0)).setCell (p:=⟨B,1,none⟩) leR (.int .i64 0)).setCell (p:=⟨B,2,none⟩) leR (.slice none 0 0)).setCell (p:=⟨B,3,none⟩) leR (.slice none 0 0)).setCell (p:=⟨B,4,none⟩) leR (.slice none 0 0)).setCell (p:=⟨B,5,none⟩) leR (.int .i64 0))
  clear qz
  go_wp2
  obtain⟨z0,z1,z2,z3,z4,z5,_⟩:=HV.out
  refine bodyPost_ret (v:=.tuple #[.agg #[.int .i64 0,.int .i64 0,.slice none 0 0,.slice none 0 0,.slice none 0 0,.int .i64 0],.int .i64 1]) ?_ rfl ⟨_,_,_,_,_,_,_,rfl,?_⟩
  ·simp[results,Tryz.results34,go_sem,z0,z1,z2,z3,z4,z5]
  ·exact Or.inl ⟨_,HZ,rfl,rfl,rfl,rfl,rfl,rfl,rfl,by rw[HBe.out];exact HBF⟩
 have hr:0<=r/\r<=1000:=by omega
 by_cases ht:0<=tag/\tag<=1099511627776
 case neg=>
  have hd:decide (0<=tag/\tag<=1099511627776)=false:=decide_eq_false ht
  have HZ:Hid (payZ xs s g ps ks nx ys r tag=.inl 1):=by show _=_;unfold payZ;rw[if_pos (Or.inr (Or.inr ht))]
  obtain⟨q0,q1,q2,q3,q4,q5,qz⟩:=HR0.out
  have f0:=qz 0
  have f1:=qz 1
  have f2:=qz 2
  have f3:=qz 3
  have f4:=qz 4
  have f5:=qz 5
  have HV:Hid _:=(((((HR0.out.s0 (.int .i64 0)).s1 (.int .i64 0)).s2 (.slice none 0 0)).s3 (.slice none 0 0)).s4 (.slice none 0 0)).s5 (.int .i64 0)
  have HBF:Hid _:=((((((HB0.out.setCell (p:=⟨B,0,none⟩) leR (.int .i64 0)).setCell (p:=⟨B,1,none⟩) leR (.int .i64 0)).setCell (p:=⟨B,2,none⟩) leR (.slice none 0 0)).setCell (p:=⟨B,3,none⟩) leR (.slice none 0 0)).setCell (p:=⟨B,4,none⟩) leR (.slice none 0 0)).setCell (p:=⟨B,5,none⟩) leR (.int .i64 0))
  clear qz
  go_wp2_with (go_at_call 78;refine(rightTag_any tag _).mono ?_;rintro e w' ⟨rfl,rfl⟩;rw[hd])
  obtain⟨z0,z1,z2,z3,z4,z5,_⟩:=HV.out
  refine bodyPost_ret (v:=.tuple #[.agg #[.int .i64 0,.int .i64 0,.slice none 0 0,.slice none 0 0,.slice none 0 0,.int .i64 0],.int .i64 1]) ?_ rfl ⟨_,_,_,_,_,_,_,rfl,?_⟩
  ·simp[results,Tryz.results34,go_sem,z0,z1,z2,z3,z4,z5]
  ·exact Or.inl ⟨_,HZ,rfl,rfl,rfl,rfl,rfl,rfl,rfl,by rw[HBe.out];exact HBF⟩
 case pos=>
  have hd:decide (0<=tag/\tag<=1099511627776)=true:=decide_eq_true ht
  have HNA:Hid (¬(r<0\/1000<r\/¬(0<=tag/\tag<=1099511627776))):=fun h=>by
   rcases h with h|h|h
   ·exact hr1 h
   ·exact hr2 h
   ·exact h ht
  by_cases hm7:7<m
  ·have HZ:Hid (payZ xs s g ps ks nx ys r tag=.inl 2):=by show _=_;unfold payZ;rw[if_neg HNA.out,if_pos (Or.inl (by rw[HYN.out];exact hm7))]
   obtain⟨q0,q1,q2,q3,q4,q5,qz⟩:=HR0.out
   have f0:=qz 0
   have f1:=qz 1
   have f2:=qz 2
   have f3:=qz 3
   have f4:=qz 4
   have f5:=qz 5
   have HV:Hid _:=(((((HR0.out.s0 (.int .i64 0)).s1 (.int .i64 0)).s2 (.slice none 0 0)).s3 (.slice none 0 0)).s4 (.slice none 0 0)).s5 (.int .i64 0)
   have HBF:Hid _:=((((((HB0.out.setCell (p:=⟨B,0,none⟩) leR (.int .i64 0)).setCell (p:=⟨B,1,none⟩) leR (.int .i64 0)).setCell (p:=⟨B,2,none⟩) leR (.slice none 0 0)).setCell (p:=⟨B,3,none⟩) leR (.slice none 0 0)).setCell (p:=⟨B,4,none⟩) leR (.slice none 0 0)).setCell (p:=⟨B,5,none⟩) leR (.int .i64 0))
   clear qz
   go_wp2_with (go_at_call 78;refine(rightTag_any tag _).mono ?_;rintro e w' ⟨rfl,rfl⟩;rw[hd])
   obtain⟨z0,z1,z2,z3,z4,z5,_⟩:=HV.out
   refine bodyPost_ret (v:=.tuple #[.agg #[.int .i64 0,.int .i64 0,.slice none 0 0,.slice none 0 0,.slice none 0 0,.int .i64 0],.int .i64 2]) ?_ rfl ⟨_,_,_,_,_,_,_,rfl,?_⟩
   ·simp[results,Tryz.results34,go_sem,z0,z1,z2,z3,z4,z5]
   ·exact Or.inl ⟨_,HZ,rfl,rfl,rfl,rfl,rfl,rfl,rfl,by rw[HBe.out];exact HBF⟩
  have hm7I:¬(7:Int)<(m:Int):=by omega
  have hd7:decide ((7:Int)<(m:Int))=false:=decide_eq_false hm7I
  go_wp2_with (first|(go_at_call 78;refine(rightTag_any tag _).mono ?_;rintro e w' ⟨rfl,rfl⟩;rw[hd])|fail)
  refine(rightOuts_any ap m d ys _ HY0 HYN).mono ?_
  rintro e w1 ⟨rfl,hb1⟩
  have HR1:=hiD (HR0.out.grown hb1)
  have HU1:=hiD (HU0.out.grown hb1)
  have HY1:=hiD (HY0.out.grown hb1)
  have HB1:Hid (Below B w w1):=HB0.out.trans (hb1.mono (by omega))
  clear hb1 HR0 HU0 HY0 HB0
  cases hro:rOuts ys
  ·have HZ:Hid (payZ xs s g ps ks nx ys r tag=.inl 2):=by show _=_;unfold payZ;rw[if_neg HNA.out,if_pos (Or.inr hro)]
   obtain⟨q0,q1,q2,q3,q4,q5,qz⟩:=HR1.out
   have f0:=qz 0
   have f1:=qz 1
   have f2:=qz 2
   have f3:=qz 3
   have f4:=qz 4
   have f5:=qz 5
   have HV:Hid _:=(((((HR1.out.s0 (.int .i64 0)).s1 (.int .i64 0)).s2 (.slice none 0 0)).s3 (.slice none 0 0)).s4 (.slice none 0 0)).s5 (.int .i64 0)
   have HBF:Hid _:=((((((HB1.out.setCell (p:=⟨B,0,none⟩) leR (.int .i64 0)).setCell (p:=⟨B,1,none⟩) leR (.int .i64 0)).setCell (p:=⟨B,2,none⟩) leR (.slice none 0 0)).setCell (p:=⟨B,3,none⟩) leR (.slice none 0 0)).setCell (p:=⟨B,4,none⟩) leR (.slice none 0 0)).setCell (p:=⟨B,5,none⟩) leR (.int .i64 0))
   clear qz
   go_wp2
   obtain⟨z0,z1,z2,z3,z4,z5,_⟩:=HV.out
   refine bodyPost_ret (v:=.tuple #[.agg #[.int .i64 0,.int .i64 0,.slice none 0 0,.slice none 0 0,.slice none 0 0,.int .i64 0],.int .i64 2]) ?_ rfl ⟨_,_,_,_,_,_,_,rfl,?_⟩
   ·simp[results,Tryz.results34,go_sem,z0,z1,z2,z3,z4,z5]
   ·exact Or.inl ⟨_,HZ,rfl,rfl,rfl,rfl,rfl,rfl,rfl,by rw[HBe.out];exact HBF⟩
  ·have HZ0:Hid (payZ xs s g ps ks nx ys r tag=match chooseZ r (orderZ r ((ownOf xs s g).filter (freeB ps ks))) (targetZ ys r) with
    |none=>.inl 9
    |some (cs,ch)=>if 0<ch then(match unpZ xs s g nx with
     |none=>.inl 10
     |some k=>payFin xs tag cs (ys++[(k.ad,ch)]) k.ix) else payFin xs tag cs ys (-1)):=by
    show _=_
    unfold payZ
    rw[if_neg HNA.out,if_neg (fun h=>h.elim (fun h=>by rw[HYN.out] at h;exact hm7 h) (fun h=>by rw[hro] at h;cases h))]
    rfl
   have hro2:(1<=ys.length/\ys.length<=8)/\ys.all rOut=true:=by
    unfold rOuts at hro
    rw[Bool.and_eq_true,decide_eq_true_iff] at hro
    exact hro
   have hm0:0<m:=by rw[<-HYN.out];omega
   have htp:=target_pos ys r hr.1 (by rw[HYN.out];exact hm0) (fun y hy=>(rOut_bd (List.all_eq_true.1 hro2.2 y hy)).2.1)
   have HYB:Hid (∀ y∈ys,0<=y.2/\y.2<=1099511627776):=fun y hy=>by
    have:=rOut_bd (List.all_eq_true.1 hro2.2 y hy)
    omega
   clear hro2
   obtain⟨av,cv,ev,hatv⟩:=HU1.out.pu.at
   subst ev
   have HAT1:=hiD hatv
   have HPR1:Hid (PurseRow w1 P s g (.slice av xs.length cv) h):=pat_row HU1.out.pu
   clear hatv
   go_wp2_with fail
   refine(pCoins_any P s g av xs.length cv h xs _ hs hg hg2 HPR1 HAT1 rfl (by omega)).mono ?_
   rintro e w2 ⟨vo2,rfl,ho2,hb2⟩
   have HOVL:Hid (∀ x∈ownOf xs s g,0<=x.val/\x.val<=1099511627776):=ownZ_val (keysZ xs s g) (fun v=>0<=v/\v<=1099511627776) (coinsC xs) (coinsC_val (fun v=>0<=v/\v<=1099511627776) xs HV0.out)
   have HOWL:Hid ((ownOf xs s g).length<=5000):=leT (leT (ownZ_len _ _) (coinsC_len xs)) hxl
   have hoo:ownZ (keysZ xs s g) (coinsC xs)=ownOf xs s g:=rfl
   rw[hoo] at ho2
   clear hoo
   generalize ownOf xs s g=own at *
   obtain⟨a2,c2,e2,hat2⟩:=OwnRec.at coin6 ho2
   subst e2
   have HA2:=hiD hat2
   have HU2:=hiD (HU1.out.grown hb2)
   have HR2:=hiD (HR1.out.grown hb2)
   have HY2:=hiD (HY1.out.grown hb2)
   have hz1:B<w1.heap.size:=cell_lt HR1.out.c0
   have HB2:Hid (Below B w w2):=HB1.out.trans (hb2.mono (by omega))
   clear ho2 hat2 hb2 HU1 HR1 HY1 HB1 HAT1 HPR1
   generalize hol:own.length=ol at *
   have HOL:=hiD hol
   have hol2:ol<=5000:=HOWL.out
   clear hol HOWL
   go_wp2_with fail
   refine(free_any N P ps ks a2 ol c2 own _ (HU2.out.ls.payM (by omega) (by omega)) HA2 HOL (by omega)).mono ?_
   rintro e w3 ⟨vf,rfl,ho3,hb3⟩
   have HFV:Hid (CVals (own.filter (freeB ps ks))):=fun x hx=>HOVL.out x (List.mem_filter.1 hx).1
   have HFL:Hid ((own.filter (freeB ps ks)).length<=5000):=by show _<=_;have:=List.length_filter_le (freeB ps ks) own;have:=HOL.out;omega
   generalize own.filter (freeB ps ks)=fl at *
   obtain⟨a3,c3,e3,hat3⟩:=OwnRec.at coin6 ho3
   subst e3
   have HA3:=hiD hat3
   have HU3:=hiD (HU2.out.grown hb3)
   have HR3:=hiD (HR2.out.grown hb3)
   have HY3:=hiD (HY2.out.grown hb3)
   have hz2:B<w2.heap.size:=cell_lt HR2.out.c0
   have HB3:Hid (Below B w w3):=HB2.out.trans (hb3.mono (by omega))
   clear ho3 hat3 hb3 HU2 HR2 HY2 HB2 HA2 HOVL HOL
   generalize hfl:fl.length=fn at *
   have HFN:=hiD hfl
   have hfn:fn<=5000:=HFL.out
   clear hfl HFL
   go_wp2_with fail
   refine(choose_any a3 fn c3 fl ap m d ys r _ HA3 HFN (by omega) hr HFV HY3 HYN (by omega) HYB).mono ?_
   rintro e w4 ⟨v4,ch4,er4,rfl,hco,hb4⟩
   have HU4:=hiD (HU3.out.grown hb4)
   have HR4:=hiD (HR3.out.grown hb4)
   have HY4:=hiD (HY3.out.grown hb4)
   have hz3:B<w3.heap.size:=cell_lt HR3.out.c0
   have HB4:Hid (Below B w w4):=HB3.out.trans (hb4.mono (by omega))
   have hbs4:w3.heap.size<=w4.heap.size:=hb4.size
   clear hb4 HU3 HR3 HY3 HB3 HA3 HFN
   unfold ChoiceOk at hco
   rcases hco with⟨hcz,rfl,rfl,rfl⟩|⟨cs,hcz,rfl,ho4⟩
   ·have HZ:Hid (payZ xs s g ps ks nx ys r tag=.inl 9):=by show _=_;rw[HZ0.out,hcz]
    have bX:Below w4.heap.size w4 (w4.alloc (.cells #[.slice none 0 0,.int .i64 0] 148)):=(Below.refl _ _).alloc leR _
    have HR5:=hiD (HR4.out.grown bX)
    have HB5:Hid (Below B w (w4.alloc (.cells #[.slice none 0 0,.int .i64 0] 148))):=HB4.out.alloc (by omega) _
    go_upto_region 8 with fail
    generalize w4.alloc (.cells #[.slice none 0 0,.int .i64 0] 148)=w5 at *
    obtain⟨q0,q1,q2,q3,q4,q5,qz⟩:=HR5.out
    have f0:=qz 0
    have f1:=qz 1
    have f2:=qz 2
    have f3:=qz 3
    have f4:=qz 4
    have f5:=qz 5
    have HV:Hid _:=(((((HR5.out.s0 (.int .i64 0)).s1 (.int .i64 0)).s2 (.slice none 0 0)).s3 (.slice none 0 0)).s4 (.slice none 0 0)).s5 (.int .i64 0)
    have HBF:Hid _:=((((((HB5.out.setCell (p:=⟨B,0,none⟩) leR (.int .i64 0)).setCell (p:=⟨B,1,none⟩) leR (.int .i64 0)).setCell (p:=⟨B,2,none⟩) leR (.slice none 0 0)).setCell (p:=⟨B,3,none⟩) leR (.slice none 0 0)).setCell (p:=⟨B,4,none⟩) leR (.slice none 0 0)).setCell (p:=⟨B,5,none⟩) leR (.int .i64 0))
    clear qz
    go_wp2
    obtain⟨z0,z1,z2,z3,z4,z5,_⟩:=HV.out
    refine bodyPost_ret (v:=.tuple #[.agg #[.int .i64 0,.int .i64 0,.slice none 0 0,.slice none 0 0,.slice none 0 0,.int .i64 0],.int .i64 9]) ?_ rfl ⟨_,_,_,_,_,_,_,rfl,?_⟩
    ·simp[results,Tryz.results34,go_sem,z0,z1,z2,z3,z4,z5]
    ·exact Or.inl ⟨_,HZ,rfl,rfl,rfl,rfl,rfl,rfl,rfl,by rw[HBe.out];exact HBF⟩
   ·have hsame:=choose_same r (orderZ r fl) (targetZ ys r) htp
    have hcz2:=hcz
    have HCF:Hid (cs≠[]/\0<=ch4):=by
     rcases hsame with⟨h1,_⟩|⟨l,c,h1,_,h3,h4,_⟩
     ·rw[h1] at hcz;cases hcz
     ·rw[h1] at hcz
      injection hcz with hcz
      injection hcz with e1 e2
      subst e1
      subst e2
      exact⟨h3,h4⟩
    have hmc:=mem_choose hcz2
    have HZ1:Hid (payZ xs s g ps ks nx ys r tag=if 0<ch4 then(match unpZ xs s g nx with
     |none=>.inl 10
     |some k=>payFin xs tag cs (ys++[(k.ad,ch4)]) k.ix) else payFin xs tag cs ys (-1)):=by show _=_;rw[HZ0.out,hcz2]
    have hch0:0<=ch4:=HCF.out.2
    clear hsame hcz hcz2 HZ0 htp
    obtain⟨a4,c4,e4,hat4⟩:=OwnRec.at coin6 ho4
    subst e4
    generalize hnc:cs.length=n4 at *
    have HNC:=hiD hnc
    have hn4:n4<=10:=hmc.2
    have hn40:0<n4:=by
     rw[<-HNC.out]
     exact List.length_pos_iff.2 HCF.out.1
    clear hnc hmc HCF
    have HO4:Hid (OwnRec CoinD.l 107 6 w4 (B+1) (.slice a4 n4 c4) cs):=owns_lower ho4 (by omega)
    clear ho4 hat4
    have bX:Below w4.heap.size w4 (w4.alloc (.cells #[.slice a4 n4 c4,.int .i64 ch4] 148)):=(Below.refl _ _).alloc leR _
    have d0:(w4.alloc (.cells #[.slice a4 n4 c4,.int .i64 ch4] 148)).cell? ⟨w4.heap.size,0,none⟩=some (.slice a4 n4 c4):=by go_simp
    have d1:(w4.alloc (.cells #[.slice a4 n4 c4,.int .i64 ch4] 148)).cell? ⟨w4.heap.size,1,none⟩=some (.int .i64 ch4):=by go_simp
    have HU5:=hiD (HU4.out.grown bX)
    have HR5:=hiD (HR4.out.grown bX)
    have HY5:=hiD (HY4.out.grown bX)
    have HO5:=hiD (HO4.out.grown bX)
    have HB5:Hid (Below B w (w4.alloc (.cells #[.slice a4 n4 c4,.int .i64 ch4] 148))):=HB4.out.alloc (by omega) _
    have hz5:B+1<(w4.alloc (.cells #[.slice a4 n4 c4,.int .i64 ch4] 148)).heap.size:=by simp;omega
    clear bX HU4 HR4 HY4 HO4 HB4
    go_upto_region 8 with fail
    generalize w4.alloc (.cells #[.slice a4 n4 c4,.int .i64 ch4] 148)=w5 at *
    have hBC:B<w4.heap.size:=by omega
    generalize w4.heap.size=C at *
    have hCl:C<w5.heap.size:=cell_lt d0
    have HLO:Hid (∀ k,(chE P (.slice av xs.length cv) k\/lsE P vl vs k\/N k)->k<B):=fun k hk=>by
     rw[<-HBe.out]
     rcases hk with e|e|e
     ·exact(HU.out.pu.blk k e).2
     ·exact HU.out.ls.blk k e
     ·exact(HU.out.ls.nN k e).1
    have HA5:Hid (RecAt CoinD.l w5 a4 cs):=own_atS coin6 HO5.out
    go_wp2_with fail
    refine(withoutChange_any a4 n4 c4 cs ap m d ys tag _ HA5 HNC (by omega) HY5 HYN hm0 (by omega)).mono ?_
    rintro e w6 ⟨vi,vo,vk,rfl,hpd,hb6⟩
    obtain⟨ai,ci,ei,_⟩:=OwnRec.at inC3 hpd.oi
    obtain⟨aq,cq,eq,_⟩:=OwnRec.at kv2 hpd.oo
    obtain⟨ak,ck,ek,_⟩:=OwnRec.at kC2 hpd.ok
    rw[HNC.out] at ei ek
    rw[HYN.out] at eq
    subst ei
    subst eq
    subst ek
    have hz6:=hb6.size
    have bY:Below w6.heap.size w6 (w6.alloc (.cells #[.int .i64 0,.int .i64 tag,.slice ai n4 ci,.slice aq m cq,.slice ak n4 ck,.int .i64 (-1)] 38)):=(Below.refl _ _).alloc leR _
    have bZ:=below_blk hb6 bY
    have HM7:Hid (PMid N P s g (.slice av xs.length cv) h xs vl vs md nx ps ks tag cs B C w6.heap.size w5.heap.size a4 n4 c4 ch4 (.slice ai n4 ci) (.slice aq m cq) (.slice ak n4 ck) ys (-1) w (w6.alloc (.cells #[.int .i64 0,.int .i64 tag,.slice ai n4 ci,.slice aq m cq,.slice ak n4 ck,.int .i64 (-1)] 38))):=
     ⟨HU5.out.grown bZ,HR5.out.grown bZ,VB.new w6 _ _ _ _ _ _ 38,hpd.grown bY,(bZ.cell (p:=⟨C,0,none⟩) hCl).trans d0,(bZ.cell (p:=⟨C,1,none⟩) hCl).trans d1,HO5.out.grown bZ,HB5.out.trans (bZ.mono (by omega)),HLO.out,fun k hk=>(HO5.out.blk k hk).2,⟨by omega,hCl,by omega,hz6⟩,fun k hk=>by
      rcases hk with e|e|e
      ·have:=(hpd.oi.blk k e).2;omega
      ·have:=(hpd.oo.blk k e).2;omega
      ·have:=(hpd.ok.blk k e).2;omega⟩
    clear hpd hb6 bY bZ d0 d1 HU5 HR5 HY5 HO5 HB5 HA5
    go_upto_region 11 with fail
    generalize w6.alloc (.cells #[.int .i64 0,.int .i64 tag,.slice ai n4 ci,.slice aq m cq,.slice ak n4 ck,.int .i64 (-1)] 38)=w7 at *
    generalize hTe:w6.heap.size=T at *
    generalize w5.heap.size=b5 at *
    have hTb:b5<=T:=hz6
    clear hTe
    have c1:=HM7.out.c1
    have c0:=HM7.out.c0
    go_upto_if 63 with fail
    go_cut [15,16,17] (fun _ _ _ wx=>∃ (ao:OAd) (co:Nat) (zs:LII) (ch:Int),0<zs.length/\zs.length<=8/\-1<=ch/\ch<=100/\Hid (payZ xs s g ps ks nx ys r tag=payFin xs tag cs zs ch)/\Hid (PMid N P s g (.slice av xs.length cv) h xs vl vs md nx ps ks tag cs B C T b5 a4 n4 c4 ch4 (.slice ai n4 ci) (.slice ao zs.length co) (.slice ak n4 ck) zs ch w wx))
    case first=>
     by_cases hc:0<ch4
     ·rw[if_pos hc] at HZ1
      have HLS:=hiD HM7.out.pp.ls
      have l7:=HLS.out.c3
      have p0:=pat_c0 HM7.out.pp.pu
      have p1:=pat_c1 HM7.out.pp.pu
      have HP2:=hiD HM7.out.pp.pu.c0
      obtain⟨av7,cv7,ev7,hatv⟩:=HM7.out.pp.pu.at
      have HAT:Hid (CelsAt w7.drew av xs):=by injection ev7 with e1 _ _;rw[e1];exact hatv.grown ((Below.refl w7.heap.size w7).drew)
      clear ev7 hatv
      have HKX:Hid (w7.cell? ⟨P,0,none⟩=some (.int .i64 s)/\w7.cell? ⟨P,1,none⟩=some (.int .i64 (g:Int))):=⟨p0,p1⟩
      have bK:Below w7.heap.size w7 ((w7.alloc (.cells #[.int .i64 0,.int .i64 0,.int .i64 0] 153)).drew):=(bAl _ _).drew
      have HKY:Hid (((w7.alloc (.cells #[.int .i64 0,.int .i64 0,.int .i64 0] 153)).drew).cell? ⟨P,0,none⟩=some (.int .i64 s)/\((w7.alloc (.cells #[.int .i64 0,.int .i64 0,.int .i64 0] 153)).drew).cell? ⟨P,1,none⟩=some (.int .i64 (g:Int))):=keepB2 bK HKX.out
      have HP2':Hid (((w7.alloc (.cells #[.int .i64 0,.int .i64 0,.int .i64 0] 153)).drew).cell? ⟨P,2,none⟩=some (.slice av xs.length cv)):=(bK.cell (p:=⟨P,2,none⟩) (cell_lt HP2.out)).trans HP2.out
      have HAT':Hid (CelsAt ((w7.alloc (.cells #[.int .i64 0,.int .i64 0,.int .i64 0] 153)).drew) av xs):=CelsAt.grown (w:=w7) HAT.out bK
      have ek0:((w7.alloc (.cells #[.int .i64 0,.int .i64 0,.int .i64 0] 153)).drew).cell? ⟨w7.heap.size,0,none⟩=some (.int .i64 0):=by show(w7.alloc (.cells #[.int .i64 0,.int .i64 0,.int .i64 0] 153)).cell? _=_;go_simp
      have ek1:((w7.alloc (.cells #[.int .i64 0,.int .i64 0,.int .i64 0] 153)).drew).cell? ⟨w7.heap.size,1,none⟩=some (.int .i64 0):=by show(w7.alloc (.cells #[.int .i64 0,.int .i64 0,.int .i64 0] 153)).cell? _=_;go_simp
      have ek2:((w7.alloc (.cells #[.int .i64 0,.int .i64 0,.int .i64 0] 153)).drew).cell? ⟨w7.heap.size,2,none⟩=some (.int .i64 0):=by show(w7.alloc (.cells #[.int .i64 0,.int .i64 0,.int .i64 0] 153)).cell? _=_;go_simp
      have HEK:Hid _:=And.intro ek0 (And.intro ek1 ek2)
      have HEF:Hid (∀ j,((w7.alloc (.cells #[.int .i64 0,.int .i64 0,.int .i64 0] 153)).drew).frozen? ⟨w7.heap.size,j,none⟩=false):=fun j=>World.frozen?_alloc_at _ _ _ _ rfl
      clear ek0 ek1 ek2
      have HKl:Hid (w7.heap.size<((w7.alloc (.cells #[.int .i64 0,.int .i64 0,.int .i64 0] 153)).drew).heap.size):=by show _<_;rw[World.size_drew,World.size_alloc];omega
      have HPK:Hid (P≠w7.heap.size):=by show _≠_;have:P<w7.heap.size:=cell_lt p0;omega
      have hTl7:T<w7.heap.size:=cell_lt HM7.out.tb.c0
      go_upto_region 13 with (go_at_call 83;refine(nextChange_any P 4 nx _ l7).mono ?_;rintro e w' ⟨rfl,rfl⟩)
      go_cut [16,17] (fun uk uf wx=>∃ (K:Nat) (kx:KeyD) (kf:Bool),uk=.pointer (some ⟨K,0,none⟩)/\uf=.bool kf/\Hid (wx.cell? ⟨K,0,none⟩=some (.int .i64 kx.br)/\wx.cell? ⟨K,1,none⟩=some (.int .i64 kx.ix)/\wx.cell? ⟨K,2,none⟩=some (.int .i64 kx.ad))/\T<K/\Hid (PMid N P s g (.slice av xs.length cv) h xs vl vs md nx ps ks tag cs B C T b5 a4 n4 c4 ch4 (.slice ai n4 ci) (.slice aq m cq) (.slice ak n4 ck) ys (-1) w wx)/\Hid ((kf=false/\unpZ xs s g nx=none)\/(kf=true/\unpZ xs s g nx=some kx)))
      case first=>
       go_region_held3 (fun w'=>w'.cell? ⟨P,0,none⟩=some (.int .i64 s)/\w'.cell? ⟨P,1,none⟩=some (.int .i64 (g:Int))) (first|assumption|go_keep|exact keepB2 hb8 HKX|exact keepB2 (hb8.alloc hb8.size _) HKX|exact keepB2 hb8 HKY|exact keepS3 hPK (keepB2 hb8 HKY)|exact HKX|exact HKY) (first|(go_at_call 84;refine(unpaid_any P 2 av xs.length cv xs s g nx w7.drew hs hg hg2 HP2 HAT rfl (by omega)).mono ?_;rintro e w8 ⟨⟨kx,kf,rfl,hun⟩,hb8⟩)|(go_at_call 84;refine(unpaid_any P 2 av xs.length cv xs s g nx ((w7.alloc (.cells #[.int .i64 0,.int .i64 0,.int .i64 0] 153)).drew) hs hg hg2 HP2'.out HAT'.out rfl (by omega)).mono ?_;rintro e w8 ⟨⟨kx,kf,rfl,hun⟩,hb8⟩;have z0:=(hb8.cell (p:=⟨w7.heap.size,0,none⟩) HKl).trans HEK.out.1;have z1:=(hb8.cell (p:=⟨w7.heap.size,1,none⟩) HKl).trans HEK.out.2.1;have z2:=(hb8.cell (p:=⟨w7.heap.size,2,none⟩) HKl).trans HEK.out.2.2;have y0:=(hb8.frozen (p:=⟨w7.heap.size,0,none⟩) HKl).trans (HEF 0);have y1:=(hb8.frozen (p:=⟨w7.heap.size,1,none⟩) HKl).trans (HEF 1);have y2:=(hb8.frozen (p:=⟨w7.heap.size,2,none⟩) HKl).trans (HEF 2);have hPK:P≠w7.heap.size:=HPK))
       all_goals first
        | (have hbd:Below w7.heap.size w7 (w8.alloc (.cells #[.int .i64 kx.br,.int .i64 kx.ix,.int .i64 kx.ad] 153)):=(((Below.refl w7.heap.size w7).drew).trans hb8).alloc hb8.size _
           have HMx:=hiD (HM7.out.grown hbd)
           have HCx:Hid ((w8.alloc (.cells #[.int .i64 kx.br,.int .i64 kx.ix,.int .i64 kx.ad] 153)).cell? ⟨w8.heap.size,0,none⟩=some (.int .i64 kx.br)/\(w8.alloc (.cells #[.int .i64 kx.br,.int .i64 kx.ix,.int .i64 kx.ad] 153)).cell? ⟨w8.heap.size,1,none⟩=some (.int .i64 kx.ix)/\(w8.alloc (.cells #[.int .i64 kx.br,.int .i64 kx.ix,.int .i64 kx.ad] 153)).cell? ⟨w8.heap.size,2,none⟩=some (.int .i64 kx.ad)):=⟨by rw[World.cell?_alloc_new];rfl,by rw[World.cell?_alloc_new];rfl,by rw[World.cell?_alloc_new];rfl⟩
           have HSx:Hid (w7.heap.size<=w8.heap.size):=hb8.size
           go_wp2_with fail
           go_meet
           exact⟨w8.heap.size,kx,kf,rfl,rfl,HCx,by have:=HSx.out;omega,HMx,hun⟩)
        | (have hbk:Below w7.heap.size w7 w8:=bK.trans (hb8.mono (by rw[World.size_drew,World.size_alloc];omega))
           have HMx:Hid (PMid N P s g (.slice av xs.length cv) h xs vl vs md nx ps ks tag cs B C T b5 a4 n4 c4 ch4 (.slice ai n4 ci) (.slice aq m cq) (.slice ak n4 ck) ys (-1) w (((w8.setCell ⟨w7.heap.size,0,none⟩ (.int .i64 kx.br)).setCell ⟨w7.heap.size,1,none⟩ (.int .i64 kx.ix)).setCell ⟨w7.heap.size,2,none⟩ (.int .i64 kx.ad))):=HM7.out.grown (((hbk.setCell (p:=⟨w7.heap.size,0,none⟩) leR _).setCell (p:=⟨w7.heap.size,1,none⟩) leR _).setCell (p:=⟨w7.heap.size,2,none⟩) leR _)
           have HCx:Hid ((((w8.setCell ⟨w7.heap.size,0,none⟩ (.int .i64 kx.br)).setCell ⟨w7.heap.size,1,none⟩ (.int .i64 kx.ix)).setCell ⟨w7.heap.size,2,none⟩ (.int .i64 kx.ad)).cell? ⟨w7.heap.size,0,none⟩=some (.int .i64 kx.br)/\(((w8.setCell ⟨w7.heap.size,0,none⟩ (.int .i64 kx.br)).setCell ⟨w7.heap.size,1,none⟩ (.int .i64 kx.ix)).setCell ⟨w7.heap.size,2,none⟩ (.int .i64 kx.ad)).cell? ⟨w7.heap.size,1,none⟩=some (.int .i64 kx.ix)/\(((w8.setCell ⟨w7.heap.size,0,none⟩ (.int .i64 kx.br)).setCell ⟨w7.heap.size,1,none⟩ (.int .i64 kx.ix)).setCell ⟨w7.heap.size,2,none⟩ (.int .i64 kx.ad)).cell? ⟨w7.heap.size,2,none⟩=some (.int .i64 kx.ad)):=⟨so (so (ss z0) (by decide)) (by decide),so (ss (so z1 (by decide))) (by decide),ss (so (so z2 (by decide)) (by decide))⟩
           go_wp2_with fail
           go_meet
           exact⟨w7.heap.size,kx,kf,rfl,rfl,HCx,hTl7,HMx,hun⟩)
      case rest=>
       obtain⟨K,kx,kf,rfl,rfl,hke,hTK,hM9,hun⟩:=hcut
       obtain⟨kb,ki,ka⟩:=kx
       have HM9:=hiD hM9.out
       obtain⟨e0,e1,e2⟩:=hke.out
       simp only at e0 e1 e2
       clear hM9 hke HKX HKY HAT HAT' HP2 HP2' HLS l7 p0 p1 c0 c1 bK HEK HEF HKl HPK hTl7
       rcases hun.out with⟨rfl,hu⟩|⟨rfl,hu⟩
       ·have HZ:Hid (payZ xs s g ps ks nx ys r tag=.inl 10):=by show _=_;rw[HZ1.out,hu]
        have HR9:=hiD HM9.out.rb
        have HB9:=hiD HM9.out.bl
        obtain⟨q0,q1,q2,q3,q4,q5,qz⟩:=HR9.out
        have f0:=qz 0
        have f1:=qz 1
        have f2:=qz 2
        have f3:=qz 3
        have f4:=qz 4
        have f5:=qz 5
        have HV:Hid _:=(((((HR9.out.s0 (.int .i64 0)).s1 (.int .i64 0)).s2 (.slice none 0 0)).s3 (.slice none 0 0)).s4 (.slice none 0 0)).s5 (.int .i64 0)
        have HBF:Hid _:=((((((HB9.out.setCell (p:=⟨B,0,none⟩) leR (.int .i64 0)).setCell (p:=⟨B,1,none⟩) leR (.int .i64 0)).setCell (p:=⟨B,2,none⟩) leR (.slice none 0 0)).setCell (p:=⟨B,3,none⟩) leR (.slice none 0 0)).setCell (p:=⟨B,4,none⟩) leR (.slice none 0 0)).setCell (p:=⟨B,5,none⟩) leR (.int .i64 0))
        clear qz
        go_wp2
        obtain⟨z0,z1,z2,z3,z4,z5,_⟩:=HV.out
        refine bodyPost_ret (v:=.tuple #[.agg #[.int .i64 0,.int .i64 0,.slice none 0 0,.slice none 0 0,.slice none 0 0,.int .i64 0],.int .i64 10]) ?_ rfl ⟨_,_,_,_,_,_,_,rfl,?_⟩
        ·simp[results,Tryz.results34,go_sem,z0,z1,z2,z3,z4,z5]
        ·exact Or.inl ⟨_,HZ,rfl,rfl,rfl,rfl,rfl,rfl,rfl,by rw[HBe.out];exact HBF⟩
       ·have HZ2:Hid (payZ xs s g ps ks nx ys r tag=payFin xs tag cs (ys++[(ka,ch4)]) ki):=by show _=_;rw[HZ1.out,hu]
        have hki:-1<=ki/\ki<=100:=by
         have hmem:=List.mem_of_find?_eq_some hu
         unfold keysZ keysB at hmem
         have h0:=winZ_le xs s g 0
         have h1:=winZ_le xs s g 1
         rcases List.mem_append.1 hmem with hm|hm
         ·obtain⟨i,hi,e⟩:=List.mem_map.1 hm
          have:=List.mem_range.1 hi
          injection e with _ e _
          omega
         ·obtain⟨i,hi,e⟩:=List.mem_map.1 hm
          have:=List.mem_range.1 hi
          injection e with _ e _
          omega
        have t5:=HM9.out.tb.c5
        have t5f:=HM9.out.tb.fz 5
        have HM10:Hid (PMid N P s g (.slice av xs.length cv) h xs vl vs md nx ps ks tag cs B C T b5 a4 n4 c4 ch4 (.slice ai n4 ci) (.slice aq m cq) (.slice ak n4 ck) ys ki w (wc.setCell ⟨T,5,none⟩ (.int .i64 ki))):=HM9.out.setC ki
        have g1:=sob (K:=T) (i:=5) (u:=.int .i64 ki) e1 (by omega)
        have g2:=sob (K:=T) (i:=5) (u:=.int .i64 ki) e2 (by omega)
        go_upto_region 17 with fail
        clear t5 t5f e0 e1 e2 HM9
        generalize wc.setCell ⟨T,5,none⟩ (.int .i64 ki)=w10 at *
        have t3:=HM10.out.tb.c3
        have t3f:=HM10.out.tb.fz 3
        have x1:=HM10.out.c1
        have hTl:T<w10.heap.size:=cell_lt t3
        have hvoT:some T≠(Value.slice aq m cq).ownBlock:=fun e=>HM10.out.pT _ (Or.inr (Or.inl e.symm)) rfl
        have bA:Below w10.heap.size w10 (w10.alloc (.cells #[.int .i64 ka,.int .i64 ch4] 93)):=(Below.refl _ _).alloc leR _
        have HM11:=hiD (HM10.out.grown bA)
        have hb5l:b5<=(w10.alloc (.cells #[.int .i64 ka,.int .i64 ch4] 93)).heap.size:=by rw[World.size_alloc];omega
        go_upto_region 18 with (at_builtin;refine wpList_appR 28 16 _ Tryz.underlying28 info93 rfl (by decide) kv2 kv_one (w10.alloc (.cells #[.int .i64 ka,.int .i64 ch4] 93)) rfl _ _ rfl b5 w10.heap.size 1 (.slice aq m cq) ys (ka,ch4) (by rfl) (by rfl) HM11.out.pd.oo (vrow_new _ _ _) hb5l (by rw[HYN.out];unfold maxLen;omega) (by rw[HYN.out];omega) ?_;intro gb capb w12 hown12 hg12 hl12 hlt12;rw[HYN.out] at hown12 ⊢;have k0:=gb_cell hg12 HM11.out.tb.c3 hvoT;have k1:=(gb_frozen hg12 (cell_lt HM11.out.tb.c3) hvoT).trans (HM11.out.tb.fz 3))
        have HM13:Hid _:=HM11.out.pushO hown12 hg12 hl12
        clear hown12 hg12 hl12 hlt12 k0 k1 HM11 HM10 bA t3 t3f x1
        go_wp2_with fail
        go_meet
        have hln:(ys++[(ka,ch4)]).length=m+1:=by rw[List.length_append,HYN.out];rfl
        exact⟨some ⟨gb,0,none⟩,capb,ys++[(ka,ch4)],ki,by rw[hln];omega,by rw[hln];omega,hki.1,hki.2,HZ2,by rw[hln];exact HM13⟩
     ·rw[if_neg hc] at HZ1
      have hcd:decide ((0:Int)<ch4)=false:=decide_eq_false hc
      go_wp2_with fail
      go_meet
      exact⟨aq,cq,ys,-1,by rw[HYN.out];exact hm0,by rw[HYN.out];omega,by omega,by omega,HZ1,by rw[HYN.out];exact HM7⟩
    case rest=>
     obtain⟨ao,co,zs,ch,hz0',hz8,hch1,hch2,hZ2,hM⟩:=hcut
     clear c0 c1 HM7 HZ1
     have HIN:Hid (InsAt wc ai (cs.map CoinD.inD)):=inC_ins (own_atS inC3 hM.out.pd.oi)
     have HOU:Hid (OutsAt wc ao zs):=rec_outs (own_atS kv2 hM.out.pd.oo)
     have t1:=hM.out.tb.c1
     have t2:=hM.out.tb.c2
     have t3:=hM.out.tb.c3
     have HNM:Hid ((cs.map CoinD.inD).length=n4):=by show _=_;rw[List.length_map];exact HNC
     go_wp2_with fail
     refine(txId_any tag ai n4 ci ao zs.length co (cs.map CoinD.inD) zs _ HIN HNM HOU rfl).mono ?_
     rintro e w14 ⟨rfl,hb14⟩
     have HM14:=hiD (hM.out.grown hb14)
     have HPF:Hid (payFin xs tag cs zs ch=if hasId xs (idZ tag (cs.map CoinD.inD) zs)=true then .inl 4 else .inr (cs,zs,ch)):=rfl
     clear t1 t2 t3 HIN HOU hM hb14
     generalize idZ tag (cs.map CoinD.inD) zs=id at *
     have HP14:=hiD HM14.out.pp.pu.c0
     obtain⟨av7,cv7,ev7,hatv⟩:=HM14.out.pp.pu.at
     have HAT14:Hid (CelsAt w14 av xs):=by injection ev7 with e1 _ _;rw[e1];exact hatv
     clear ev7 hatv
     go_wp2_with fail
     refine(hasId_any P 2 av xs.length cv xs id _ HP14 HAT14 rfl (by omega)).mono ?_
     rintro e w15 ⟨rfl,hb15⟩
     have HM15:=hiD (HM14.out.grown hb15)
     clear HM14 HP14 HAT14 hb15
     cases hh:hasId xs id
     ·have HZ:Hid (payZ xs s g ps ks nx ys r tag=.inr (cs,zs,ch)):=by show _=_;rw[hZ2.out,HPF.out,if_neg (by rw[hh];simp)]
      have hlt:=HM15.out.lt
      have hPB:P<B:=HM15.out.lo P (Or.inl (Or.inl rfl))
      have HVB:Hid (∀ k,vl.ownBlock=some k->k<B):=fun k hk=>HM15.out.lo k (Or.inr (Or.inl (Or.inr (Or.inl hk))))
      have hE:∀ k,B<=k->¬(k=P\/vl.ownBlock=some k):=fun k hk e=>by
       rcases e with e|e
       ·omega
       ·have:=HVB.out k e;omega
      have HE:=hiD hE
      have c0:=HM15.out.c0
      have t3:=HM15.out.tb.c3
      have t5:=HM15.out.tb.c5
      have HSD:Hid (w15.drew.cell? ⟨C,0,none⟩=some (.slice a4 n4 c4)/\w15.drew.cell? ⟨T,3,none⟩=some (.slice ao zs.length co)/\w15.drew.cell? ⟨T,5,none⟩=some (.int .i64 ch)):=⟨c0,t3,t5⟩
      have HT0:=hiD HM15.out.tb.c0
      have hT15:T<w15.heap.size:=cell_lt HM15.out.tb.c0
      have HTF:Hid (∀ j,w15.drew.frozen? ⟨T,j,none⟩=false):=fun j=>HM15.out.tb.fz j
      have hd15:Below w15.heap.size w15 w15.drew:=(Below.refl _ _).drew
      have HMD:Hid (PMid N P s g (.slice av xs.length cv) h xs vl vs md nx ps ks tag cs B C T b5 a4 n4 c4 ch4 (.slice ai n4 ci) (.slice ao zs.length co) (.slice ak n4 ck) zs ch w w15.drew):=HM15.out.grown hd15
      have HLS:=hiD HMD.out.pp.ls
      have HXA:Hid (RecAt CoinD.l w15.drew a4 cs):=own_atS coin6 HMD.out.o4
      have HYA:Hid (OutsAt w15.drew ao zs):=rec_outs (own_atS kv2 HMD.out.pd.oo)
      have hP15:P+1<=w15.drew.heap.size:=by have:P<w15.drew.heap.size:=cell_lt HLS.out.c0;omega
      have HCT:Hid (C≠T):=by show _≠_;omega
      clear hd15
      go_upto_region 21 with fail
      go_region_held3 (fun w'=>w'.cell? ⟨C,0,none⟩=some (.slice a4 n4 c4)/\w'.cell? ⟨T,3,none⟩=some (.slice ao zs.length co)/\w'.cell? ⟨T,5,none⟩=some (.int .i64 ch)) (first|assumption|go_keep|exact⟨hF16.cell HSD.out.1 (HE _ (by omega)),hF16.cell HSD.out.2.1 (HE _ (by omega)),hF16.cell HSD.out.2.2 (HE _ (by omega))⟩|exact⟨sob (hF16.cell HSD.out.1 (HE _ (by omega))) HCT,so (hF16.cell HSD.out.2.1 (HE _ (by omega))) (by decide),so (hF16.cell HSD.out.2.2 (HE _ (by omega))) (by decide)⟩) ((go_at_call 87;refine(payAdd_any N P 4 (P+1) vl vs md nx ps ks a4 n4 c4 cs ao zs.length co zs tag ch w15.drew HLS hP15 HXA HNC hn40 hn4 HYA rfl hz0' hz8 hmd hpl ⟨hch1,hch2⟩).mono ?_;rintro e w16 ⟨rfl,hadd⟩;obtain⟨vl',gc,gcc,go,goc,hL16,hF16,hgc,hgo,hvl16,hcj⟩:=hadd;have x0:=hF16.cell HT0 (HE T (by omega));have xf:=(hF16.frozen (o:=0) (show T<w15.drew.heap.size from hT15) (HE T (by omega))).trans (HTF 0)))
      have hv16:∀ k,(Value.slice av xs.length cv).ownBlock=some k->k<B:=fun k hk=>HM15.out.lo k (Or.inl (Or.inr hk))
      have hs16:w15.heap.size<=w16.heap.size:=hF16.size
      have hpu:PAt [] w16 P s g (.slice av xs.length cv) h xs:=by
       have hp:=HMD.out.pp.pu
       refine⟨(hcj 2 (by omega)).trans hp.c0,(hcj 3 (by omega)).trans hp.c1,hL16.fz 2,hL16.fz,hF16.own hp.own (fun k hk e=>?_),fun q hq=>⟨(hp.ext q hq).1,(hp.ext q hq).2.1,?_⟩⟩
       ·rcases e with e|e
        ·have:=(hp.own.blk k hk).1;omega
        ·exact(HMD.out.pp.dj k hk).1 e
       ·have hq2:q.1<4:=by
         simp only[List.mem_cons,List.not_mem_nil,or_false] at hq
         rcases hq with rfl|rfl
         ·show(0:Nat)<4;omega
         ·show(1:Nat)<4;omega
        exact(hcj q.1 hq2).trans (hp.ext q hq).2.2
      have hpp:PP (fun k=>N k\/k=gc\/k=go) w16 P s g (.slice av xs.length cv) h xs vl' vs (md+1) (if nx<=ch then ch+1 else nx) (ps++[⟨md,some ⟨gc,0,none⟩,n4,gcc,some ⟨go,0,none⟩,zs.length,goc,tag,false,cs,zs⟩]) ks:=⟨hpu,hL16,fun k hk=>by
       have hkB:=hv16 k hk
       refine⟨fun e=>?_,(HMD.out.pp.dj k hk).2.1,fun e=>?_⟩
       ·rcases hvl16 k e with e'|e'
        ·exact(HMD.out.pp.dj k hk).1 e'
        ·have:w15.heap.size<=k:=e';omega
       ·rcases e with e|e|e
        ·exact(HMD.out.pp.dj k hk).2.2 e
        ·have:w15.heap.size<=gc:=hgc;omega
        ·have:w15.heap.size<=go:=hgo;omega⟩
      have hTB:B<T:=by omega
      have hf18:Fr (fun k=>k=T\/k=B) w16 (((((((w16.setCell ⟨T,0,none⟩ (.int .i64 md)).setCell ⟨B,0,none⟩ (.int .i64 md)).setCell ⟨B,1,none⟩ (.int .i64 tag)).setCell ⟨B,2,none⟩ (.slice ai n4 ci)).setCell ⟨B,3,none⟩ (.slice ao zs.length co)).setCell ⟨B,4,none⟩ (.slice ak n4 ck)).setCell ⟨B,5,none⟩ (.int .i64 ch)):=(((((((Fr.refl _ w16).set T 0 _ (fun _=>Or.inl rfl)).set B 0 _ (fun _=>Or.inr rfl)).set B 1 _ (fun _=>Or.inr rfl)).set B 2 _ (fun _=>Or.inr rfl)).set B 3 _ (fun _=>Or.inr rfl)).set B 4 _ (fun _=>Or.inr rfl)).set B 5 _ (fun _=>Or.inr rfl)
      have hnew:∀ k,(vl'.ownBlock=some k\/k=gc\/k=go)->vl.ownBlock=some k\/w15.heap.size<=k:=fun k hk=>by
       rcases hk with e|e|e
       ·exact hvl16 k e
       ·rw[e];exact Or.inr hgc
       ·rw[e];exact Or.inr hgo
      have hnTB:∀ k,(k<B\/w15.heap.size<=k)->¬(k=T\/k=B):=fun k hk e=>by
       rcases e with e|e<;>rcases hk with h|h<;>omega
      have HPP18:Hid (PP (fun k=>N k\/k=gc\/k=go) (((((((w16.setCell ⟨T,0,none⟩ (.int .i64 md)).setCell ⟨B,0,none⟩ (.int .i64 md)).setCell ⟨B,1,none⟩ (.int .i64 tag)).setCell ⟨B,2,none⟩ (.slice ai n4 ci)).setCell ⟨B,3,none⟩ (.slice ao zs.length co)).setCell ⟨B,4,none⟩ (.slice ak n4 ck)).setCell ⟨B,5,none⟩ (.int .i64 ch)) P s g (.slice av xs.length cv) h xs vl' vs (md+1) (if nx<=ch then ch+1 else nx) (ps++[⟨md,some ⟨gc,0,none⟩,n4,gcc,some ⟨go,0,none⟩,zs.length,goc,tag,false,cs,zs⟩]) ks):=hpp.fr hf18 (fun k hk=>hnTB k (Or.inl (HM15.out.lo k (Or.inl hk)))) (fun k hk=>hnTB k (by
       rcases hk with e|e|e
       ·exact Or.inl (by omega)
       ·rcases hnew k (Or.inl e) with e'|e'
        ·exact Or.inl (HVB k e')
        ·exact Or.inr e'
       ·exact Or.inl (HM15.out.lo k (Or.inr (Or.inl (Or.inr (Or.inr e))))))) (fun k hk=>hnTB k (by
       rcases hk with e|e|e
       ·exact Or.inl (HM15.out.lo k (Or.inr (Or.inr e)))
       ·exact Or.inr (by rw[e];exact hgc)
       ·exact Or.inr (by rw[e];exact hgo)))
      have hb5B:B<b5:=hlt.1
      have hpd16:PdOk b5 (.slice ai n4 ci) (.slice ao zs.length co) (.slice ak n4 ck) cs zs cs w16:=HMD.out.pd.fr hF16 (fun k hk=>HE.out k (by omega))
      have hpT:=HM15.out.pT
      have HPD18:Hid (PdOk B (.slice ai n4 ci) (.slice ao zs.length co) (.slice ak n4 ck) cs zs cs (((((((w16.setCell ⟨T,0,none⟩ (.int .i64 md)).setCell ⟨B,0,none⟩ (.int .i64 md)).setCell ⟨B,1,none⟩ (.int .i64 tag)).setCell ⟨B,2,none⟩ (.slice ai n4 ci)).setCell ⟨B,3,none⟩ (.slice ao zs.length co)).setCell ⟨B,4,none⟩ (.slice ak n4 ck)).setCell ⟨B,5,none⟩ (.int .i64 ch))):=PdOk.lower ⟨hf18.own hpd16.oi (fun k hk e=>by
       have:=(hpd16.oi.blk k hk).1
       rcases e with e|e
       ·exact hpT k (Or.inl hk) e
       ·omega),hf18.own hpd16.oo (fun k hk e=>by
       have:=(hpd16.oo.blk k hk).1
       rcases e with e|e
       ·exact hpT k (Or.inr (Or.inl hk)) e
       ·omega),hf18.own hpd16.ok (fun k hk e=>by
       have:=(hpd16.ok.blk k hk).1
       rcases e with e|e
       ·exact hpT k (Or.inr (Or.inr hk)) e
       ·omega),hpd16.n1,hpd16.n2⟩ (show B<=b5 by omega)
      have HF18:Hid (Fr (fun k=>k=P\/vl.ownBlock=some k) w (((((((w16.setCell ⟨T,0,none⟩ (.int .i64 md)).setCell ⟨B,0,none⟩ (.int .i64 md)).setCell ⟨B,1,none⟩ (.int .i64 tag)).setCell ⟨B,2,none⟩ (.slice ai n4 ci)).setCell ⟨B,3,none⟩ (.slice ao zs.length co)).setCell ⟨B,4,none⟩ (.slice ak n4 ck)).setCell ⟨B,5,none⟩ (.int .i64 ch))):=by
       have h1:Fr (fun k=>k=P\/vl.ownBlock=some k) w w16:=(Fr.of_below (by rw[HBe.out];exact HMD.out.bl) _).trans hF16
       exact Fr.trans_new2 h1 hf18 (fun q hq=>by rw[HBe.out];rcases hq with e|e<;>omega)
      have HSEP:Hid (∀ k,(vl'.ownBlock=some k\/k=gc\/k=go)->vl.ownBlock=some k\/(B<=k/\(Value.slice ai n4 ci).ownBlock≠some k/\(Value.slice ao zs.length co).ownBlock≠some k/\(Value.slice ak n4 ck).ownBlock≠some k)):=fun k hk=>by
       rcases hnew k hk with e|e
       ·exact Or.inl e
       ·exact Or.inr ⟨by omega,fun e'=>by have:=(HM15.out.pd.oi.blk k e').2;omega,fun e'=>by have:=(HM15.out.pd.oo.blk k e').2;omega,fun e'=>by have:=(HM15.out.pd.ok.blk k e').2;omega⟩
      have HT17:Hid (VB (w16.setCell ⟨T,0,none⟩ (.int .i64 md)) T (.int .i64 md) (.int .i64 tag) (.slice ai n4 ci) (.slice ao zs.length co) (.slice ak n4 ck) (.int .i64 ch)):=(HMD.out.tb.fr hF16 (HE.out T (by omega))).s0 _
      have HR17:Hid (VB (w16.setCell ⟨T,0,none⟩ (.int .i64 md)) B (.int .i64 0) (.int .i64 0) (.slice none 0 0) (.slice none 0 0) (.slice none 0 0) (.int .i64 0)):=(HMD.out.rb.fr hF16 (HE.out B (by omega))).oth _ (by omega)
      obtain⟨t0,t1,t2,t3',t4,t5',_⟩:=HT17.out
      obtain⟨q0,q1,q2,q3,q4,q5,qz⟩:=HR17.out
      have f0:=qz 0
      have f1:=qz 1
      have f2:=qz 2
      have f3:=qz 3
      have f4:=qz 4
      have f5:=qz 5
      have HV:Hid _:=(((((HR17.out.s0 (.int .i64 md)).s1 (.int .i64 tag)).s2 (.slice ai n4 ci)).s3 (.slice ao zs.length co)).s4 (.slice ak n4 ck)).s5 (.int .i64 ch)
      clear qz hpp hpu hL16 hF16 hcj hvl16 hf18 hnew hnTB hpd16 c0 t3 t5 x0 xf hE
      go_wp2
      obtain⟨z0,z1,z2,z3,z4,z5,_⟩:=HV.out
      refine bodyPost_ret (v:=.tuple #[.agg #[.int .i64 md,.int .i64 tag,.slice ai n4 ci,.slice ao zs.length co,.slice ak n4 ck,.int .i64 ch],.int .i64 0]) ?_ rfl ⟨_,_,_,_,_,_,_,rfl,?_⟩
      ·simp[results,Tryz.results34,go_sem,z0,z1,z2,z3,z4,z5]
      ·refine Or.inr ⟨cs,zs,ch,HZ,rfl,rfl,rfl,rfl,?_⟩
       unfold PayGo
       rw[HBe.out,HNC.out]
       exact⟨vl',gc,gcc,go,goc,HPP18,HPD18,HF18,HSEP⟩
     ·have HZ:Hid (payZ xs s g ps ks nx ys r tag=.inl 4):=by show _=_;rw[hZ2.out,HPF.out,if_pos hh]
      have HR15:=hiD HM15.out.rb
      have HB15:=hiD HM15.out.bl
      obtain⟨q0,q1,q2,q3,q4,q5,qz⟩:=HR15.out
      have f0:=qz 0
      have f1:=qz 1
      have f2:=qz 2
      have f3:=qz 3
      have f4:=qz 4
      have f5:=qz 5
      have HV:Hid _:=(((((HR15.out.s0 (.int .i64 0)).s1 (.int .i64 0)).s2 (.slice none 0 0)).s3 (.slice none 0 0)).s4 (.slice none 0 0)).s5 (.int .i64 0)
      have HBF:Hid _:=((((((HB15.out.setCell (p:=⟨B,0,none⟩) leR (.int .i64 0)).setCell (p:=⟨B,1,none⟩) leR (.int .i64 0)).setCell (p:=⟨B,2,none⟩) leR (.slice none 0 0)).setCell (p:=⟨B,3,none⟩) leR (.slice none 0 0)).setCell (p:=⟨B,4,none⟩) leR (.slice none 0 0)).setCell (p:=⟨B,5,none⟩) leR (.int .i64 0))
      clear qz
      go_wp2
      obtain⟨z0,z1,z2,z3,z4,z5,_⟩:=HV.out
      refine bodyPost_ret (v:=.tuple #[.agg #[.int .i64 0,.int .i64 0,.slice none 0 0,.slice none 0 0,.slice none 0 0,.int .i64 0],.int .i64 4]) ?_ rfl ⟨_,_,_,_,_,_,_,rfl,?_⟩
      ·simp[results,Tryz.results34,go_sem,z0,z1,z2,z3,z4,z5]
      ·exact Or.inl ⟨_,HZ,rfl,rfl,rfl,rfl,rfl,rfl,rfl,by rw[HBe.out];exact HBF⟩
end
end Go.Proofs.YtffgpepngcnjeabGreat
