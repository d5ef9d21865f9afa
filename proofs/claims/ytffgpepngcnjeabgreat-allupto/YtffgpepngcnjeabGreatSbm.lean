import Derived.Test.YtffgpepngcnjeabGreatSbl
namespace Go.Proofs.YtffgpepngcnjeabGreat
set_option maxRecDepth 100000
set_option maxHeartbeats 8000000
section
open Go.RowKit
variable {col col':NtN} {z Dr q m g k:Nat} {L E:NPr} {w w1 w2 w':World} {v:Value}
theorem info44:(Tryz.prog.info? 44).map (fun i=>(i.zero,i.size,i.bytes))=some (some (.slice none 0 0),1,24):=by kernel_rfl
theorem keepInts_some (col:NtN) (z Dr q g n cc:Nat) (w:World) (hd:DrA col z w Dr q) (hz:∀ k,w.heap.size<=k->col k=0) (hr:Room w g (cc*1)) (hgc:col g=0) (hgw:g<w.heap.size) (hnc:n<=cc) (hq:q<=20000000) (hcc:cc<=9223372036854775807):
 Calls Tryz.prog 209 #[.pointer (some ⟨Dr,0,none⟩),.slice (some ⟨g,0,none⟩) n cc] w fun e w'=>e=.returned (.tuple #[])/\KeptR col z Dr q (fun k=>k=g) w w':=by
 obtain⟨z0,n0⟩:=hd.n0
 have f0:=hd.fz 0
 have hDl:Dr<w.heap.size:=hd.lt
 have hDg:Dr≠g:=fun e=>by have:=hd.kd;rw[e,hgc] at this;omega
 have HR:=hiD hr
 have HKD:=hiD hd.kd
 have HZ:=hiD hz
 have HLZ:Hid (∀ k,k=g->col k=0):=fun k e=>by rw[e];exact hgc
 have e0:(0:Int)<=(cc:Int):=by omega
 have e1:(cc:Int)<=(cc:Int):=by omega
 obtain⟨z1,hz1e⟩:∃ z1,IntKind.i64.wrap (z0+1)=z1:=⟨_,rfl⟩
 have HD1:Hid (DrA col z (w.setCell ⟨Dr,0,none⟩ (.int .i64 z1)) Dr q):=(hd.tick z1).1
 have c1:=(hd.tick z1).2
 have HW1:Hid (Wrote (fun k=>k=g\/k=Dr) w (w.setCell ⟨Dr,0,none⟩ (.int .i64 z1))):=(Wrote.refl _ w).set Dr 0 _ (Or.inr rfl)
 have HS1:Hid ((w.setCell ⟨Dr,0,none⟩ (.int .i64 z1)).heap.size=w.heap.size):=by show _=_;simp
 clear hd hr hz hgc
 go_enter Tryz.func209,Tryz.ntmps209
 go_wp2
 clear hz1e
 generalize w.setCell ⟨Dr,0,none⟩ (.int .i64 z1)=w1 at *
 clear n0 f0
 go_loopw [5] (fun i wr=>∃ j:Nat,j<=cc/\i=.int .i64 j/\Wrote (fun k=>k=g) w1 wr/\Hid (VRow wr g 0 ((List.replicate j z1).flatMap (patOf 1)))) (fun i _=>cc-(intOf i).toNat)
 case atStart=>exact⟨0,Nat.zero_le _,rfl,Wrote.refl _ _,fun j hj=>by simp at hj⟩
 case round=>
  obtain⟨j,hj,rfl,hw,hv⟩:=hrel
  have m0:=hw.fr.cell c1 hDg
  by_cases hjt:j<cc
  ·have hro:=(HW1.out.trans (hw.weak (fun k _ e=>Or.inl e))).room _ _ HR.out
   obtain⟨v0,d0⟩:=hro.here (j) (by omega)
   have fz0:=hro.free (j) (by omega)
   have e2:(0:Int)<=(j:Int):=by omega
   have e3:(j:Int)<(cc:Int):=by omega
   have hgD:g≠Dr:=fun e=>hDg e.symm
   have HWW:=hiD hw
   have HLL:Hid (((List.replicate j z1).flatMap (patOf 1)).length=j*1):=rep_len (patOf 1) 1 (fun _=>rfl) j z1
   have HSN:Hid ((List.replicate (j+1) z1).flatMap (patOf 1)=(List.replicate j z1).flatMap (patOf 1)++patOf 1 z1):=rep_snoc (patOf 1) j z1
   have HP0:=hiD hv.out
   have HP1:Hid (VRow (wr.setCell ⟨g,j,none⟩ (.int .i64 z1)) g 0 (((List.replicate j z1).flatMap (patOf 1))++[.int .i64 z1])):=VRow.put HP0.out (n:=j) (by have:=HLL.out;omega) _ ⟨_,d0⟩
   have HPF:Hid (VRow (wr.setCell ⟨g,j,none⟩ (.int .i64 z1)) g 0 ((List.replicate (j+1) z1).flatMap (patOf 1))):=by show VRow _ _ _ _;rw[HSN.out];show VRow _ g 0 ((List.replicate j z1).flatMap (patOf 1)++[.int .i64 z1]);have:=HP1.out;simpa only[List.append_assoc,List.cons_append,List.nil_append] using this
   clear hro hw hv HP0 HP1
   go_wp2
   go_roundw
   case rel=>exact⟨j+1,by omega,by go_num,(HWW.out.set g (j) _ rfl),HPF⟩
   case measure=>simp[intOf];omega
  ·have hjc:j=cc:=by omega
   subst hjc
   have hwz:=hw.fr.size
   have hD2:DrA col z wr Dr q:=HD1.out.mv hw.fr (fun k e=>by rw[e,HLZ.out g rfl];omega) (fun _ _=>rfl) leR
   have HXK:Hid (KeptAt (patOf 1) wr ⟨some ⟨g,0,none⟩,j,j⟩ z1):=Or.inr ⟨hcc,g,rfl,hv.out⟩
   have HXC:Hid (∀ k,(CbD.mk (some ⟨g,0,none⟩) j j).blk=some k->col k=0/\k<wr.heap.size):=fun k hk=>by
    unfold CbD.blk at hk
    split at hk
    ·cases hk
    ·simp only[Option.map_some,Option.some.injEq] at hk
     subst hk
     exact⟨HLZ _ rfl,by have:=HS1.out;omega⟩
   have HXL:Hid (∀ k,(CbD.mk (some ⟨g,0,none⟩) j j).blk=some k->k=g):=fun k hk=>by
    unfold CbD.blk at hk
    split at hk
    ·cases hk
    ·simp only[Option.map_some,Option.some.injEq] at hk
     exact hk.symm
   have HZR:Hid (∀ k,wr.heap.size<=k->col k=0):=fun k hk=>HZ.out k (by have:=HS1.out;omega)
   have HFW:Hid (Fr (fun k=>k=Dr\/k=g) w wr):=(HW1.out.fr.weak (fun k _ e=>e.elim Or.inr Or.inl)).trans (hw.fr.weak (fun k _ e=>Or.inr e))
   clear hw hv hwz
   obtain⟨V,W,cs,ns,hk⟩:=hD2.kn 1 (by omega) (by omega)
   have m5:=hk.ca
   have mf5:=hD2.fz 1
   have HD2:=hiD hD2
   have HK:=hiD hk
   have HOC:=hiD hk.oc
   have HLC:Hid (cs.length<=q):=by show _<=_;rw[hk.ln];exact hk.lq
   have HLN:=hiD hk.lq
   clear hD2 hk
   go_upto_region 7 with (at_builtin;refine wpList_appR 70 24 _ Tryz.underlying70 info44 rfl (by decide) cb1 cbv_one (wr.alloc (.cells #[.slice (some ⟨g,0,none⟩) j j] 44)) rfl _ _ rfl 0 wr.heap.size 1 V cs ⟨some ⟨g,0,none⟩,j,j⟩ (by rfl) (by rfl) (HOC.out.alloc _) (vrow_new _ _ _) (Nat.zero_le _) (by have:=HLC.out;unfold maxLen;omega) (by have:=HLC.out;omega) ?_;intro g5 cap5 w5 hown5 hg5 hl5 hlt5;have h6:=dr_one HD2 HK (by omega) HZR m0 HXK HXC rfl hown5 hg5 hl5;have k5:=h6.1;have kf5:=h6.2.1;have H6:Hid _:=h6;clear h6)
   obtain⟨_,_,hB6,fr6,ex6,ey6⟩:=H6.out
   have x0:=hB6.c0
   have x10:=hB6.cb
   have xf10:=hB6.fz 6
   have HB6:Hid _:=hB6
   have HFR6:Hid _:=fr6
   have HEX6:Hid _:=ex6
   have HEY6:Hid _:=ey6
   have hbv:some Dr≠W.ownBlock:=fun e=>by have h1:=hB6.kw _ e.symm;have h2:=hB6.kd;omega
   have HON:=hiD hB6.on
   have hD6:Dr<(w5.setCell ⟨Dr,1,none⟩ (.slice (some ⟨g5,0,none⟩) (cs.length+1) cap5)).heap.size:=cell_lt x0
   clear k5 kf5 H6 m0 m5 mf5 hown5 hg5 hl5 hlt5 hB6 fr6 ex6 ey6 HOC
   generalize hw6:w5.setCell ⟨Dr,1,none⟩ (.slice (some ⟨g5,0,none⟩) (cs.length+1) cap5)=w6 at *
   have HW6:=hiD hw6
   clear hw6
   go_region_law (refine step_appR 44 8 _ Tryz.underlying44 info3 rfl (by decide) iv1 iv_one _ ?_ (.tmp 44) (.tmp 49) ?_ 0 w6.heap.size 1 W ns z1 ?_ ?_ ?_ ?_ ?_ ?_ ?_ ?_;rfl;rfl;rfl;rfl;exact OwnRec.drew (HON.out.alloc _);exact VRow.drew (vrow_new w6 _ _);exact Nat.zero_le _;(have:=HLN.out;unfold maxLen;omega);(have:=HLN.out;omega);intro g7 cap7 w7 hown7 hg7 hl7 hlt7;have k0:=keepO hg7 x10 hbv;have k1:=keepF hg7 xf10 hD6 hbv)
   all_goals
    go_wp2
    go_end0
    refine⟨rfl,?_⟩
    have e6:=HW6.out
    subst e6
    exact dr_end (a:=1) HKD HK.out.kv HK.out.kw (by omega) HZ HFW HXL HB6 HFR6 HEX6 HEY6 rfl hown7 hg7 hl7
theorem keepInts_none (col:NtN) (z Dr q:Nat) (w:World) (hd:DrA col z w Dr q) (hz:∀ k,w.heap.size<=k->col k=0) (hq:q<=20000000):
 Calls Tryz.prog 209 #[.pointer (some ⟨Dr,0,none⟩),.slice none 0 0] w fun e w'=>e=.returned (.tuple #[])/\KeptR col z Dr q (fun _=>False) w w':=by
 obtain⟨z0,n0⟩:=hd.n0
 have f0:=hd.fz 0
 have hDl:Dr<w.heap.size:=hd.lt
 have HKD:=hiD hd.kd
 have HZ:=hiD hz
 have HLZ:Hid (∀ k,False->col k=0):=fun k e=>e.elim
 obtain⟨z1,hz1e⟩:∃ z1,IntKind.i64.wrap (z0+1)=z1:=⟨_,rfl⟩
 have HD1:Hid (DrA col z (w.setCell ⟨Dr,0,none⟩ (.int .i64 z1)) Dr q):=(hd.tick z1).1
 have c1:=(hd.tick z1).2
 have HFW0:Hid (Fr (fun k=>k=Dr\/False) w (w.setCell ⟨Dr,0,none⟩ (.int .i64 z1))):=(Fr.refl _ w).set Dr 0 _ (fun _=>Or.inl rfl)
 have HS1:Hid ((w.setCell ⟨Dr,0,none⟩ (.int .i64 z1)).heap.size=w.heap.size):=by show _=_;simp
 clear hd hz
 go_enter Tryz.func209,Tryz.ntmps209
 go_wp2
 clear hz1e
 generalize w.setCell ⟨Dr,0,none⟩ (.int .i64 z1)=w1 at *
 clear n0 f0
 refine wp_loop_rounds 1 ?_
 rw[rounds_succ]
 obtain⟨wr,rfl⟩:∃ wr:World,wr=w1:=⟨_,rfl⟩
 have m0:=c1
 have HFW:=hiD HFW0.out
 have hD2:DrA col z wr Dr q:=HD1.out
 have HXK:Hid (KeptAt (patOf 1) wr ⟨none,0,0⟩ z1):=Or.inl rfl
 have HXC:Hid (∀ k,(CbD.mk none 0 0).blk=some k->col k=0/\k<wr.heap.size):=fun k hk=>by
  unfold CbD.blk at hk
  rw[if_pos rfl] at hk
  cases hk
 have HXL:Hid (∀ k,(CbD.mk none 0 0).blk=some k->False):=fun k hk=>by
  unfold CbD.blk at hk
  rw[if_pos rfl] at hk
  cases hk
 have HZR:Hid (∀ k,wr.heap.size<=k->col k=0):=fun k hk=>HZ.out k (by have:=HS1.out;omega)
 clear c1
 obtain⟨V,W,cs,ns,hk⟩:=hD2.kn 1 (by omega) (by omega)
 have m5:=hk.ca
 have mf5:=hD2.fz 1
 have HD2:=hiD hD2
 have HK:=hiD hk
 have HOC:=hiD hk.oc
 have HLC:Hid (cs.length<=q):=by show _<=_;rw[hk.ln];exact hk.lq
 have HLN:=hiD hk.lq
 clear hD2 hk
 go_upto_region 7 with (at_builtin;refine wpList_appR 70 24 _ Tryz.underlying70 info44 rfl (by decide) cb1 cbv_one (wr.alloc (.cells #[.slice none 0 0] 44)) rfl _ _ rfl 0 wr.heap.size 1 V cs ⟨none,0,0⟩ (by rfl) (by rfl) (HOC.out.alloc _) (vrow_new _ _ _) (Nat.zero_le _) (by have:=HLC.out;unfold maxLen;omega) (by have:=HLC.out;omega) ?_;intro g5 cap5 w5 hown5 hg5 hl5 hlt5;have h6:=dr_one HD2 HK (by omega) HZR m0 HXK HXC rfl hown5 hg5 hl5;have k5:=h6.1;have kf5:=h6.2.1;have H6:Hid _:=h6;clear h6)
 obtain⟨_,_,hB6,fr6,ex6,ey6⟩:=H6.out
 have x0:=hB6.c0
 have x10:=hB6.cb
 have xf10:=hB6.fz 6
 have HB6:Hid _:=hB6
 have HFR6:Hid _:=fr6
 have HEX6:Hid _:=ex6
 have HEY6:Hid _:=ey6
 have hbv:some Dr≠W.ownBlock:=fun e=>by have h1:=hB6.kw _ e.symm;have h2:=hB6.kd;omega
 have HON:=hiD hB6.on
 have hD6:Dr<(w5.setCell ⟨Dr,1,none⟩ (.slice (some ⟨g5,0,none⟩) (cs.length+1) cap5)).heap.size:=cell_lt x0
 clear k5 kf5 H6 m0 m5 mf5 hown5 hg5 hl5 hlt5 hB6 fr6 ex6 ey6 HOC
 generalize hw6:w5.setCell ⟨Dr,1,none⟩ (.slice (some ⟨g5,0,none⟩) (cs.length+1) cap5)=w6 at *
 have HW6:=hiD hw6
 clear hw6
 go_region_law (refine step_appR 44 8 _ Tryz.underlying44 info3 rfl (by decide) iv1 iv_one _ ?_ (.tmp 44) (.tmp 49) ?_ 0 w6.heap.size 1 W ns z1 ?_ ?_ ?_ ?_ ?_ ?_ ?_ ?_;rfl;rfl;rfl;rfl;exact OwnRec.drew (HON.out.alloc _);exact VRow.drew (vrow_new w6 _ _);exact Nat.zero_le _;(have:=HLN.out;unfold maxLen;omega);(have:=HLN.out;omega);intro g7 cap7 w7 hown7 hg7 hl7 hlt7;have k0:=keepO hg7 x10 hbv;have k1:=keepF hg7 xf10 hD6 hbv)
 all_goals
  go_wp2
  go_end0
  refine⟨rfl,?_⟩
  have e6:=HW6.out
  subst e6
  exact dr_end (a:=1) HKD HK.out.kv HK.out.kw (by omega) HZ HFW HXL HB6 HFR6 HEX6 HEY6 rfl hown7 hg7 hl7
theorem keepInts_any (col:NtN) (z Dr q:Nat) (v:Value) (w:World) (hd:DrA col z w Dr q) (hz:∀ k,w.heap.size<=k->col k=0) (hv:Handed 1 col w v) (hq:q<=20000000):
 Calls Tryz.prog 209 #[.pointer (some ⟨Dr,0,none⟩),v] w fun e w'=>e=.returned (.tuple #[])/\KeptR col z Dr q (fun k=>v.ownBlock=some k) w w':=by
 rcases hv with rfl|⟨g,n,cc,rfl,h1,h2,h3,h4,h5⟩
 ·refine(keepInts_none col z Dr q w hd hz hq).mono ?_
  rintro e w' ⟨rfl,h⟩
  exact⟨rfl,h.weak (fun k e=>e.elim)⟩
 ·refine(keepInts_some col z Dr q g n cc w hd hz h1 h2 h3 h4 hq h5).mono ?_
  rintro e w' ⟨rfl,h⟩
  exact⟨rfl,h.weak (fun k e=>by rw[e];rfl)⟩
theorem info33:(Tryz.prog.info? 33).map (fun i=>(i.zero,i.size,i.bytes))=some (some (.slice none 0 0),1,24):=by kernel_rfl
abbrev InD.sv (x:InD):Value:=.slice x.ao x.n x.c
structure InsH (col:NtN) (w:World) (g:Nat) (xs:List InD):Prop where
 c2:∀ j,j<xs.length->w.cell? ⟨g,j*3+2,none⟩=some (xs.getD j dIn).sv
 hd:∀ j,j<xs.length->Handed 1 col w (xs.getD j dIn).sv
 ng:∀ j,j<xs.length->(xs.getD j dIn).sv.ownBlock≠some g
 ne:∀ i j,i<j->j<xs.length->∀ k,(xs.getD i dIn).sv.ownBlock=some k->(xs.getD j dIn).sv.ownBlock≠some k
def sealsB (xs:List InD) (j k:Nat):Prop:=∃ i,i<j/\(xs.getD i dIn).sv.ownBlock=some k
theorem keepIns_some (col0:NtN) (z Dr q0 g n cc:Nat) (xs:List InD) (w0:World) (hd:DrA col0 z w0 Dr q0) (hz:∀ k,w0.heap.size<=k->col0 k=0) (hr:Room w0 g (cc*3)) (hgc:col0 g=0) (hgw:g<w0.heap.size) (hnc:n<=cc) (hi:InsH col0 w0 g xs) (hn:xs.length=n) (hn1:n<=1000) (hq:q0<=19000000) (hcc:cc<=9223372036854775807):
 Calls Tryz.prog 172 #[.pointer (some ⟨Dr,0,none⟩),.slice (some ⟨g,0,none⟩) n cc] w0 fun e w'=>e=.returned (.tuple #[])/\KeptM col0 z Dr q0 (n+1) (fun k=>k=g\/sealsB xs n k) w0 w':=by
 have HI:=hiD hi
 have HN:=hiD hn
 have HR0:=hiD hr
 have HGC:=hiD hgc
 have HZ0:=hiD hz
 have HD0:=hiD hd
 have e0:(0:Int)<=(cc:Int):=by omega
 have e1:(cc:Int)<=(cc:Int):=by omega
 clear hi hn hr hgc hz hd
 go_enter Tryz.func172,Tryz.ntmps172
 go_wp2
 go_loopw [4] (fun i wr=>∃ j:Nat,j<=n/\i=.int .i64 j/\Hid (KeptM col0 z Dr q0 j (sealsB xs j) w0 wr)) (fun i _=>n-(intOf i).toNat)
 case atStart=>exact⟨0,Nat.zero_le _,rfl,col0,Ext.refl _ _ _ _ _,HD0,Fr.refl _ _,fun k h _ _=>h⟩
 case round=>
  obtain⟨j,hj,rfl,hk⟩:=hrel
  obtain⟨colj,hx1,hx2,hx3,hx4⟩:=hk.out
  have hgn:¬sealsB xs j g:=fun⟨i,hi,e⟩=>HI.out.ng i (by rw[HN.out];omega) e
  have hgE:¬((z+13<=col0 g/\col0 g<=z+23)\/sealsB xs j g):=fun e=>e.elim (fun e=>by rw[HGC.out] at e;omega) hgn
  have hzj:∀ k,wr.heap.size<=k->colj k=0:=Ext.zero (w:=w0) hx1 hx3.size HZ0.out
  by_cases hlt:j<n
  ·have c2:=hx3.cell (HI.out.c2 j (by rw[HN.out];exact hlt)) hgE
   have HH:Hid (Handed 1 colj wr (xs.getD j dIn).sv):=(HI.out.hd j (by rw[HN.out];exact hlt)).mv hx3 (fun b hb=>by
    have hb0:col0 b=0/\b<w0.heap.size:=by
     rcases HI.out.hd j (by rw[HN.out];exact hlt) with e|⟨g',n',c',e,_,h2,h3,_,_⟩
     ·rw[e] at hb;cases hb
     ·rw[e] at hb;simp[Value.ownBlock] at hb;subst hb;exact⟨h2,h3⟩
    have hnb:¬sealsB xs j b:=fun⟨i,hi,e⟩=>HI.out.ne i j hi (by rw[HN.out];exact hlt) b e hb
    exact⟨fun e=>e.elim (fun e=>by omega) hnb,hx4 b hb0.1 hb0.2 hnb⟩)
   have HZ9:=hiD hzj
   have HX2:=hiD hx2
   have HKM:=hiD hk.out
   have HK9:Hid (∀ w2,KeptR colj z Dr (q0+j) (fun k=>(xs.getD j dIn).sv.ownBlock=some k) wr w2->KeptM col0 z Dr q0 (j+1) (sealsB xs (j+1)) w0 w2):=fun w2 h2=>by
    obtain⟨c2',y1,y2,y3,y4⟩:=h2
    have hy3:=y3.size
    refine⟨c2',hx1.trans y1 hy3,by rw[<-Nat.add_assoc];exact y2,?_,fun k f1 f2 f3=>?_⟩
    ·refine⟨y3.os.trans hx3.os,y3.tape.trans hx3.tape,y3.output.trans hx3.output,leT hx3.size hy3,fun k hk he=>?_⟩
     have he1:¬((z+13<=col0 k/\col0 k<=z+23)\/sealsB xs j k):=fun e=>he (e.imp id (fun⟨i,hi,e⟩=>⟨i,by omega,e⟩))
     refine(y3.block k (ltL hk hx3.size) (fun e=>?_)).trans (hx3.block k hk he1)
     rcases e with e|e
     ·rcases hx1 k with e2|e2
      ·exact he (Or.inl (by omega))
      ·have:=hx4 k e2.1 hk (fun e=>he1 (Or.inr e));omega
     ·exact he (Or.inr ⟨j,by omega,e⟩)
    ·exact y4 k (hx4 k f1 f2 (fun⟨i,hi,e⟩=>f3 ⟨i,by omega,e⟩)) (ltL f2 hx3.size) (fun e=>f3 ⟨j,by omega,e⟩)
   clear hx1 hx2 hx3 hx4 hk hzj
   generalize (xs.getD j dIn)=y at *
   obtain⟨y0,y1,y2,y3,y4,y5⟩:=y
   simp only[InD.sv] at c2
   have e2:(0:Int)<=(j:Int):=by omega
   have e3:(j:Int)<(n:Int):=by omega
   go_wp2_with fail
   refine(keepInts_any colj z Dr (q0+j) _ _ HX2 HZ9 HH (by omega)).mono ?_
   rintro e w2 ⟨rfl,hk2⟩
   have HK2:Hid _:=HK9.out w2 hk2
   clear hk2 c2
   go_wp2
   go_roundw
   case rel=>exact⟨j+1,by omega,by go_num,HK2⟩
   case measure=>simp[intOf];omega
  ·have hjn:j=n:=by omega
   subst hjn
   obtain⟨w,rfl⟩:∃ w:World,w=wr:=⟨_,rfl⟩
   obtain⟨col,rfl⟩:∃ col:Nat->Nat,col=colj:=⟨_,rfl⟩
   obtain⟨q,hqe⟩:∃ q,q=q0+j:=⟨_,rfl⟩
   rw[<-hqe] at hx2
   have hgc:col g=0:=hx4 g HGC.out hgw hgn
   have hgw1:g<w.heap.size:=ltL hgw hx3.size
   have hr:=Room.fr hx3 HR0.out hgE
   have HFIN:Hid (∀ w2,KeptR col z Dr q (fun k=>k=g) w w2->KeptM col0 z Dr q0 (j+1) (fun k=>k=g\/sealsB xs j k) w0 w2):=fun w2 h2=>by
    obtain⟨c2',y1,y2,y3,y4⟩:=h2
    have hy3:=y3.size
    refine⟨c2',hx1.trans y1 hy3,by rw[<-Nat.add_assoc,<-hqe];exact y2,?_,fun k f1 f2 f3=>?_⟩
    ·refine⟨y3.os.trans hx3.os,y3.tape.trans hx3.tape,y3.output.trans hx3.output,leT hx3.size hy3,fun k hk he=>?_⟩
     have he1:¬((z+13<=col0 k/\col0 k<=z+23)\/sealsB xs j k):=fun e=>he (e.imp id Or.inr)
     refine(y3.block k (ltL hk hx3.size) (fun e=>?_)).trans (hx3.block k hk he1)
     rcases e with e|e
     ·rcases hx1 k with e2|e2
      ·exact he (Or.inl (by omega))
      ·have:=hx4 k e2.1 hk (fun e=>he1 (Or.inr e));omega
     ·exact he (Or.inr (Or.inl e))
    ·exact y4 k (hx4 k f1 f2 (fun e=>f3 (Or.inr e))) (ltL f2 hx3.size) (fun e=>f3 (Or.inl e))
   have hz:=hzj
   have hd:=hx2
   have hq9:q<=20000000:=by omega
   clear hx1 hx2 hx3 hx4 hk hzj hgn hgE HI HN HR0 HGC HZ0 HD0 hqe
   obtain⟨z0,n0⟩:=hd.n0
   have f0:=hd.fz 0
   have hDl:Dr<w.heap.size:=hd.lt
   have hDg:Dr≠g:=fun e=>by have:=hd.kd;rw[e,hgc] at this;omega
   have HR:=hiD hr
   have HKD:=hiD hd.kd
   have HZ:=hiD hz
   have HLZ:Hid (∀ k,k=g->col k=0):=fun k e=>by rw[e];exact hgc
   obtain⟨z1,hz1e⟩:∃ z1,IntKind.i64.wrap (z0+1)=z1:=⟨_,rfl⟩
   have HD1:Hid (DrA col z (w.setCell ⟨Dr,0,none⟩ (.int .i64 z1)) Dr q):=(hd.tick z1).1
   have c1:=(hd.tick z1).2
   have HW1:Hid (Wrote (fun k=>k=g\/k=Dr) w (w.setCell ⟨Dr,0,none⟩ (.int .i64 z1))):=(Wrote.refl _ w).set Dr 0 _ (Or.inr rfl)
   have HS1:Hid ((w.setCell ⟨Dr,0,none⟩ (.int .i64 z1)).heap.size=w.heap.size):=by show _=_;simp
   clear hd hr hz hgc
   go_wp2
   clear hz1e
   generalize w.setCell ⟨Dr,0,none⟩ (.int .i64 z1)=w1 at *
   clear n0 f0
   go_loopw [6] (fun i wr=>∃ i9:Nat,i9<=cc/\i=.int .i64 i9/\Wrote (fun k=>k=g) w1 wr/\Hid (VRow wr g 0 ((List.replicate i9 z1).flatMap (patOf 2)))) (fun i _=>cc-(intOf i).toNat)
   case atStart=>exact⟨0,Nat.zero_le _,rfl,Wrote.refl _ _,fun i9 hj=>by simp at hj⟩
   case round=>
    obtain⟨i9,hj,rfl,hw,hv⟩:=hrel
    have m0:=hw.fr.cell c1 hDg
    by_cases hjt:i9<cc
    ·have hro:=(HW1.out.trans (hw.weak (fun k _ e=>Or.inl e))).room _ _ HR.out
     obtain⟨v0,d0⟩:=hro.here (i9*3) (by omega)
     obtain⟨v1,d1⟩:=hro.here (i9*3+1) (by omega)
     obtain⟨v2,d2⟩:=hro.here (i9*3+2) (by omega)
     have fz0:=hro.free (i9*3) (by omega)
     have fz1:=hro.free (i9*3+1) (by omega)
     have fz2:=hro.free (i9*3+2) (by omega)
     have e2:(0:Int)<=(i9:Int):=by omega
     have e3:(i9:Int)<(cc:Int):=by omega
     have hgD:g≠Dr:=fun e=>hDg e.symm
     have HWW:=hiD hw
     have HLL:Hid (((List.replicate i9 z1).flatMap (patOf 2)).length=i9*3):=rep_len (patOf 2) 3 (fun _=>rfl) i9 z1
     have HSN:Hid ((List.replicate (i9+1) z1).flatMap (patOf 2)=(List.replicate i9 z1).flatMap (patOf 2)++patOf 2 z1):=rep_snoc (patOf 2) i9 z1
     have HP0:=hiD hv.out
     have HP1:Hid (VRow (wr.setCell ⟨g,i9*3,none⟩ (.int .i64 z1)) g 0 (((List.replicate i9 z1).flatMap (patOf 2))++[.int .i64 z1])):=VRow.put HP0.out (n:=i9*3) (by have:=HLL.out;omega) _ ⟨_,d0⟩
     have HP2:Hid (VRow ((wr.setCell ⟨g,i9*3,none⟩ (.int .i64 z1)).setCell ⟨g,i9*3+1,none⟩ (.int .i64 z1)) g 0 ((((List.replicate i9 z1).flatMap (patOf 2))++[.int .i64 z1])++[.int .i64 z1])):=VRow.put HP1.out (n:=i9*3+1) (by simp only[List.length_append,List.length_cons,List.length_nil];have:=HLL.out;omega) _ ⟨_,so (d1) (by omega)⟩
     have HP3:Hid (VRow (((wr.setCell ⟨g,i9*3,none⟩ (.int .i64 z1)).setCell ⟨g,i9*3+1,none⟩ (.int .i64 z1)).setCell ⟨g,i9*3+2,none⟩ (.slice none 0 0)) g 0 (((((List.replicate i9 z1).flatMap (patOf 2))++[.int .i64 z1])++[.int .i64 z1])++[.slice none 0 0])):=VRow.put HP2.out (n:=i9*3+2) (by simp only[List.length_append,List.length_cons,List.length_nil];have:=HLL.out;omega) _ ⟨_,so (so (d2) (by omega)) (by omega)⟩
     have HPF:Hid (VRow (((wr.setCell ⟨g,i9*3,none⟩ (.int .i64 z1)).setCell ⟨g,i9*3+1,none⟩ (.int .i64 z1)).setCell ⟨g,i9*3+2,none⟩ (.slice none 0 0)) g 0 ((List.replicate (i9+1) z1).flatMap (patOf 2))):=by show VRow _ _ _ _;rw[HSN.out];show VRow _ g 0 ((List.replicate i9 z1).flatMap (patOf 2)++[.int .i64 z1,.int .i64 z1,.slice none 0 0]);have:=HP3.out;simpa only[List.append_assoc,List.cons_append,List.nil_append] using this
     clear hro hw hv HP0 HP1 HP2 HP3
     go_wp2
     go_region
     all_goals
      go_wp2
      go_roundw
      case rel=>exact⟨i9+1,by omega,by go_num,(((HWW.out.set g (i9*3) _ rfl).set g (i9*3+1) _ rfl).set g (i9*3+2) _ rfl).drew,HPF⟩
      case measure=>simp[intOf];omega
    ·have hjc:i9=cc:=by omega
     subst hjc
     have hwz:=hw.fr.size
     have hD2:DrA col z wr Dr q:=HD1.out.mv hw.fr (fun k e=>by rw[e,HLZ.out g rfl];omega) (fun _ _=>rfl) leR
     have HXK:Hid (KeptAt (patOf 2) wr ⟨some ⟨g,0,none⟩,i9,i9⟩ z1):=Or.inr ⟨hcc,g,rfl,hv.out⟩
     have HXC:Hid (∀ k,(CbD.mk (some ⟨g,0,none⟩) i9 i9).blk=some k->col k=0/\k<wr.heap.size):=fun k hk=>by
      unfold CbD.blk at hk
      split at hk
      ·cases hk
      ·simp only[Option.map_some,Option.some.injEq] at hk
       subst hk
       exact⟨HLZ _ rfl,by have:=HS1.out;omega⟩
     have HXL:Hid (∀ k,(CbD.mk (some ⟨g,0,none⟩) i9 i9).blk=some k->k=g):=fun k hk=>by
      unfold CbD.blk at hk
      split at hk
      ·cases hk
      ·simp only[Option.map_some,Option.some.injEq] at hk
       exact hk.symm
     have HZR:Hid (∀ k,wr.heap.size<=k->col k=0):=fun k hk=>HZ.out k (by have:=HS1.out;omega)
     have HFW:Hid (Fr (fun k=>k=Dr\/k=g) w wr):=(HW1.out.fr.weak (fun k _ e=>e.elim Or.inr Or.inl)).trans (hw.fr.weak (fun k _ e=>Or.inr e))
     clear hw hv hwz
     obtain⟨V,W,cs,ns,hk⟩:=hD2.kn 2 (by omega) (by omega)
     have m5:=hk.ca
     have mf5:=hD2.fz 2
     have HD2:=hiD hD2
     have HK:=hiD hk
     have HOC:=hiD hk.oc
     have HLC:Hid (cs.length<=q):=by show _<=_;rw[hk.ln];exact hk.lq
     have HLN:=hiD hk.lq
     clear hD2 hk
     go_upto_region 11 with (at_builtin;refine wpList_appR 71 24 _ Tryz.underlying71 info33 rfl (by decide) cb1 cbv_one (wr.alloc (.cells #[.slice (some ⟨g,0,none⟩) i9 i9] 33)) rfl _ _ rfl 0 wr.heap.size 1 V cs ⟨some ⟨g,0,none⟩,i9,i9⟩ (by rfl) (by rfl) (HOC.out.alloc _) (vrow_new _ _ _) (Nat.zero_le _) (by have:=HLC.out;unfold maxLen;omega) (by have:=HLC.out;omega) ?_;intro g5 cap5 w5 hown5 hg5 hl5 hlt5;have h6:=dr_one HD2 HK (by omega) HZR m0 HXK HXC rfl hown5 hg5 hl5;have k5:=h6.1;have kf5:=h6.2.1;have H6:Hid _:=h6;clear h6)
     obtain⟨_,_,hB6,fr6,ex6,ey6⟩:=H6.out
     have x0:=hB6.c0
     have x10:=hB6.cb
     have xf10:=hB6.fz 7
     have HB6:Hid _:=hB6
     have HFR6:Hid _:=fr6
     have HEX6:Hid _:=ex6
     have HEY6:Hid _:=ey6
     have hbv:some Dr≠W.ownBlock:=fun e=>by have h1:=hB6.kw _ e.symm;have h2:=hB6.kd;omega
     have HON:=hiD hB6.on
     have hD6:Dr<(w5.setCell ⟨Dr,2,none⟩ (.slice (some ⟨g5,0,none⟩) (cs.length+1) cap5)).heap.size:=cell_lt x0
     clear k5 kf5 H6 m0 m5 mf5 hown5 hg5 hl5 hlt5 hB6 fr6 ex6 ey6 HOC
     generalize hw6:w5.setCell ⟨Dr,2,none⟩ (.slice (some ⟨g5,0,none⟩) (cs.length+1) cap5)=w6 at *
     have HW6:=hiD hw6
     clear hw6
     go_region_law (refine step_appR 44 8 _ Tryz.underlying44 info3 rfl (by decide) iv1 iv_one _ ?_ (.tmp 63) (.tmp 68) ?_ 0 w6.heap.size 1 W ns z1 ?_ ?_ ?_ ?_ ?_ ?_ ?_ ?_;rfl;rfl;rfl;rfl;exact OwnRec.drew (HON.out.alloc _);exact VRow.drew (vrow_new w6 _ _);exact Nat.zero_le _;(have:=HLN.out;unfold maxLen;omega);(have:=HLN.out;omega);intro g7 cap7 w7 hown7 hg7 hl7 hlt7;have k0:=keepO hg7 x10 hbv;have k1:=keepF hg7 xf10 hD6 hbv)
     all_goals
      go_wp2
      go_end0
      refine⟨rfl,?_⟩
      have e6:=HW6.out
      subst e6
      exact HFIN _ (dr_end (a:=2) HKD HK.out.kv HK.out.kw (by omega) HZ HFW HXL HB6 HFR6 HEX6 HEY6 rfl hown7 hg7 hl7)
theorem keepIns_none (col:NtN) (z Dr q:Nat) (w:World) (hd:DrA col z w Dr q) (hz:∀ k,w.heap.size<=k->col k=0) (hq:q<=20000000):
 Calls Tryz.prog 172 #[.pointer (some ⟨Dr,0,none⟩),.slice none 0 0] w fun e w'=>e=.returned (.tuple #[])/\KeptR col z Dr q (fun _=>False) w w':=by
 obtain⟨z0,n0⟩:=hd.n0
 have f0:=hd.fz 0
 have hDl:Dr<w.heap.size:=hd.lt
 have HKD:=hiD hd.kd
 have HZ:=hiD hz
 have HLZ:Hid (∀ k,False->col k=0):=fun k e=>e.elim
 obtain⟨z1,hz1e⟩:∃ z1,IntKind.i64.wrap (z0+1)=z1:=⟨_,rfl⟩
 have HD1:Hid (DrA col z (w.setCell ⟨Dr,0,none⟩ (.int .i64 z1)) Dr q):=(hd.tick z1).1
 have c1:=(hd.tick z1).2
 have HFW0:Hid (Fr (fun k=>k=Dr\/False) w (w.setCell ⟨Dr,0,none⟩ (.int .i64 z1))):=(Fr.refl _ w).set Dr 0 _ (fun _=>Or.inl rfl)
 have HS1:Hid ((w.setCell ⟨Dr,0,none⟩ (.int .i64 z1)).heap.size=w.heap.size):=by show _=_;simp
 clear hd hz
 go_enter Tryz.func172,Tryz.ntmps172
 go_wp2
 refine wp_loop_rounds 1 ?_
 rw[rounds_succ]
 go_wp2
 clear hz1e
 generalize w.setCell ⟨Dr,0,none⟩ (.int .i64 z1)=w1 at *
 clear n0 f0
 refine wp_loop_rounds 1 ?_
 rw[rounds_succ]
 obtain⟨wr,rfl⟩:∃ wr:World,wr=w1:=⟨_,rfl⟩
 have m0:=c1
 have HFW:=hiD HFW0.out
 have hD2:DrA col z wr Dr q:=HD1.out
 have HXK:Hid (KeptAt (patOf 2) wr ⟨none,0,0⟩ z1):=Or.inl rfl
 have HXC:Hid (∀ k,(CbD.mk none 0 0).blk=some k->col k=0/\k<wr.heap.size):=fun k hk=>by
  unfold CbD.blk at hk
  rw[if_pos rfl] at hk
  cases hk
 have HXL:Hid (∀ k,(CbD.mk none 0 0).blk=some k->False):=fun k hk=>by
  unfold CbD.blk at hk
  rw[if_pos rfl] at hk
  cases hk
 have HZR:Hid (∀ k,wr.heap.size<=k->col k=0):=fun k hk=>HZ.out k (by have:=HS1.out;omega)
 clear c1
 obtain⟨V,W,cs,ns,hk⟩:=hD2.kn 2 (by omega) (by omega)
 have m5:=hk.ca
 have mf5:=hD2.fz 2
 have HD2:=hiD hD2
 have HK:=hiD hk
 have HOC:=hiD hk.oc
 have HLC:Hid (cs.length<=q):=by show _<=_;rw[hk.ln];exact hk.lq
 have HLN:=hiD hk.lq
 clear hD2 hk
 go_upto_region 11 with (at_builtin;refine wpList_appR 71 24 _ Tryz.underlying71 info33 rfl (by decide) cb1 cbv_one (wr.alloc (.cells #[.slice none 0 0] 33)) rfl _ _ rfl 0 wr.heap.size 1 V cs ⟨none,0,0⟩ (by rfl) (by rfl) (HOC.out.alloc _) (vrow_new _ _ _) (Nat.zero_le _) (by have:=HLC.out;unfold maxLen;omega) (by have:=HLC.out;omega) ?_;intro g5 cap5 w5 hown5 hg5 hl5 hlt5;have h6:=dr_one HD2 HK (by omega) HZR m0 HXK HXC rfl hown5 hg5 hl5;have k5:=h6.1;have kf5:=h6.2.1;have H6:Hid _:=h6;clear h6)
 obtain⟨_,_,hB6,fr6,ex6,ey6⟩:=H6.out
 have x0:=hB6.c0
 have x10:=hB6.cb
 have xf10:=hB6.fz 7
 have HB6:Hid _:=hB6
 have HFR6:Hid _:=fr6
 have HEX6:Hid _:=ex6
 have HEY6:Hid _:=ey6
 have hbv:some Dr≠W.ownBlock:=fun e=>by have h1:=hB6.kw _ e.symm;have h2:=hB6.kd;omega
 have HON:=hiD hB6.on
 have hD6:Dr<(w5.setCell ⟨Dr,2,none⟩ (.slice (some ⟨g5,0,none⟩) (cs.length+1) cap5)).heap.size:=cell_lt x0
 clear k5 kf5 H6 m0 m5 mf5 hown5 hg5 hl5 hlt5 hB6 fr6 ex6 ey6 HOC
 generalize hw6:w5.setCell ⟨Dr,2,none⟩ (.slice (some ⟨g5,0,none⟩) (cs.length+1) cap5)=w6 at *
 have HW6:=hiD hw6
 clear hw6
 go_region_law (refine step_appR 44 8 _ Tryz.underlying44 info3 rfl (by decide) iv1 iv_one _ ?_ (.tmp 63) (.tmp 68) ?_ 0 w6.heap.size 1 W ns z1 ?_ ?_ ?_ ?_ ?_ ?_ ?_ ?_;rfl;rfl;rfl;rfl;exact OwnRec.drew (HON.out.alloc _);exact VRow.drew (vrow_new w6 _ _);exact Nat.zero_le _;(have:=HLN.out;unfold maxLen;omega);(have:=HLN.out;omega);intro g7 cap7 w7 hown7 hg7 hl7 hlt7;have k0:=keepO hg7 x10 hbv;have k1:=keepF hg7 xf10 hD6 hbv)
 all_goals
  go_wp2
  go_end0
  refine⟨rfl,?_⟩
  have e6:=HW6.out
  subst e6
  exact dr_end (a:=2) HKD HK.out.kv HK.out.kw (by omega) HZ HFW HXL HB6 HFR6 HEX6 HEY6 rfl hown7 hg7 hl7
def HandedI (col:NtN) (w:World) (v:Value) (xs:List InD):Prop:=(v=.slice none 0 0/\xs=[])\/∃ g n cc,v=.slice (some ⟨g,0,none⟩) n cc/\Room w g (cc*3)/\col g=0/\g<w.heap.size/\n<=cc/\cc<=9223372036854775807/\InsH col w g xs/\xs.length=n
theorem keepIns_any (col:NtN) (z Dr q:Nat) (v:Value) (xs:List InD) (w:World) (hd:DrA col z w Dr q) (hz:∀ k,w.heap.size<=k->col k=0) (hv:HandedI col w v xs) (hn:xs.length<=1000) (hq:q<=19000000):
 Calls Tryz.prog 172 #[.pointer (some ⟨Dr,0,none⟩),v] w fun e w'=>e=.returned (.tuple #[])/\KeptM col z Dr q (xs.length+1) (fun k=>v.ownBlock=some k\/sealsB xs xs.length k) w w':=by
 rcases hv with⟨rfl,rfl⟩|⟨g,n,cc,rfl,h1,h2,h3,h4,h5,h6,h7⟩
 ·refine(keepIns_none col z Dr q w hd hz (by omega)).mono ?_
  rintro e w' ⟨rfl,h⟩
  exact⟨rfl,h.weak (fun k e=>e.elim)⟩
 ·refine(keepIns_some col z Dr q g n cc xs w hd hz h1 h2 h3 h4 h6 h7 (by omega) hq h5).mono ?_
  rintro e w' ⟨rfl,h⟩
  rw[h7]
  exact⟨rfl,h.weak (fun k e=>e.imp (fun e=>by rw[e];rfl) id)⟩
theorem KeptM.pre (h:KeptM col z Dr q m L w1 w2) (hb:Below w.heap.size w w1):KeptM col z Dr q m L w w2:=by
 obtain⟨c1,h1,h2,h3,h4⟩:=h
 exact⟨c1,h1,h2,(Fr.of_below hb _).trans h3,fun k e1 e2 e3=>h4 k e1 (ltL e2 hb.size) e3⟩
theorem InsH.mv {xs:List InD} (h:InsH col w g xs) (hf:Fr E w w') (hg:¬E g) (hE:∀ k,sealsB xs xs.length k->¬E k/\col' k=0):InsH col' w' g xs:=
 ⟨fun j hj=>hf.cell (h.c2 j hj) hg,fun j hj=>(h.hd j hj).mv hf (fun b hb=>hE b ⟨j,hj,hb⟩),h.ng,h.ne⟩
theorem HandedI.mv {xs:List InD} (h:HandedI col w v xs) (hf:Fr E w w') (hE:∀ k,(v.ownBlock=some k\/sealsB xs xs.length k)->¬E k/\col' k=0):HandedI col' w' v xs:=by
 rcases h with h|⟨g,n,cc,rfl,h1,h2,h3,h4,h5,h6,h7⟩
 ·exact Or.inl h
 ·exact Or.inr ⟨g,n,cc,rfl,Room.fr hf h1 (hE g (Or.inl rfl)).1,(hE g (Or.inl rfl)).2,ltL h3 hf.size,h4,h5,h6.mv hf (hE g (Or.inl rfl)).1 (fun k hk=>hE k (Or.inr hk)),h7⟩
theorem Handed.blk (h:Handed k col w v):∀ g,v.ownBlock=some g->col g=0/\g<w.heap.size:=fun g hg=>by
 rcases h with h|⟨g',n,cc,rfl,_,h2,h3,_,_⟩
 ·rw[h] at hg;cases hg
 ·simp[Value.ownBlock] at hg;subst hg;exact⟨h2,h3⟩
theorem HandedI.blk {xs:List InD} (h:HandedI col w v xs):∀ k,(v.ownBlock=some k\/sealsB xs xs.length k)->col k=0/\k<w.heap.size:=fun k hk=>by
 rcases h with⟨h,h'⟩|⟨g',n,cc,rfl,_,h2,h3,_,_,h6,_⟩
 ·rcases hk with e|⟨i,hi,_⟩
  ·rw[h] at e;cases e
  ·rw[h'] at hi;exact absurd hi (Nat.not_lt_zero _)
 ·rcases hk with e|⟨i,hi,e⟩
  ·simp[Value.ownBlock] at e;subst e;exact⟨h2,h3⟩
  ·exact(h6.hd i hi).blk k e
theorem keepTx_any (col:NtN) (z Dr q:Nat) (t:Int) (ai:OAd) (n c:Nat) (xs:List InD) (ap:OAd) (m d:Nat) (w:World) (hd:DrA col z w Dr q) (hz:∀ k,w.heap.size<=k->col k=0) (hi:HandedI col w (.slice ai n c) xs) (ho:Handed 2 col w (.slice ap m d)) (hne:∀ k,(Value.slice ap m d).ownBlock=some k->¬((Value.slice ai n c).ownBlock=some k\/sealsB xs xs.length k)) (hn:xs.length<=1000) (hq:q<=18000000):
 Calls Tryz.prog 116 #[.pointer (some ⟨Dr,0,none⟩),.agg #[.int .i64 t,.slice ai n c,.slice ap m d]] w fun e w'=>e=.returned (.tuple #[])/\KeptM col z Dr q (xs.length+2) (fun k=>((Value.slice ai n c).ownBlock=some k\/sealsB xs xs.length k)\/(Value.slice ap m d).ownBlock=some k) w w':=by
 have hb1:Below w.heap.size w (w.alloc (.cells #[.int .i64 t,.slice ai n c,.slice ap m d] 35)):=(Below.refl _ _).alloc leR _
 have hv:=vrow_new w [.int .i64 t,.slice ai n c,.slice ap m d] 35
 have x1:(w.alloc (.cells #[.int .i64 t,.slice ai n c,.slice ap m d] 35)).cell? ⟨w.heap.size,1,none⟩=some (.slice ai n c):=hv 1 (by simp)
 have x2:(w.alloc (.cells #[.int .i64 t,.slice ai n c,.slice ap m d] 35)).cell? ⟨w.heap.size,2,none⟩=some (.slice ap m d):=hv 2 (by simp)
 have HD1:=hiD (hd.grown hb1)
 have HI1:Hid (HandedI col (w.alloc (.cells #[.int .i64 t,.slice ai n c,.slice ap m d] 35)) (.slice ai n c) xs):=hi.mv (Fr.of_below hb1 (fun _=>False)) (fun k hk=>⟨fun h=>h,(hi.blk k hk).1⟩)
 have HO1:Hid (Handed 2 col (w.alloc (.cells #[.int .i64 t,.slice ai n c,.slice ap m d] 35)) (.slice ap m d)):=ho.mv (Fr.of_below hb1 (fun _=>False)) (fun k hk=>⟨fun h=>h,(ho.blk k hk).1⟩)
 have HZ1:Hid (∀ k,(w.alloc (.cells #[.int .i64 t,.slice ai n c,.slice ap m d] 35)).heap.size<=k->col k=0):=fun k hk=>hz k (by rw[World.size_alloc] at hk;omega)
 have HX:Hid (col w.heap.size=0/\¬((Value.slice ai n c).ownBlock=some w.heap.size\/sealsB xs xs.length w.heap.size)):=⟨hz _ leR,fun e=>by have:=(hi.blk _ e).2;omega⟩
 have HNE:=hiD hne
 have HB1:=hiD hb1
 clear hd hz hi ho hne hv hb1
 go_enter Tryz.func116,Tryz.ntmps116
 go_wp2_with fail
 generalize w.alloc (.cells #[.int .i64 t,.slice ai n c,.slice ap m d] 35)=w1 at *
 generalize hX:w.heap.size=X at *
 have HXe:=hiD hX
 clear hX
 refine(keepIns_any col z Dr q (.slice ai n c) xs _ HD1 HZ1 HI1 hn (by omega)).mono ?_
 rintro e w2 ⟨rfl,hk2⟩
 have HK2:Hid _:=hk2
 obtain⟨c2,y1,y2,y3,y4⟩:=hk2
 have x22:=y3.cell x2 (fun e=>e.elim (fun e=>by rw[HX.out.1] at e;omega) HX.out.2)
 have HO2:Hid (Handed 2 c2 w2 (.slice ap m d)):=HO1.out.mv y3 (fun k hk=>⟨fun e=>e.elim (fun e=>by have:=(HO1.out.blk k hk).1;omega) (HNE.out k hk),y4 k (HO1.out.blk k hk).1 (HO1.out.blk k hk).2 (HNE.out k hk)⟩)
 have HZ2:Hid (∀ k,w2.heap.size<=k->c2 k=0):=Ext.zero (w:=w1) y1 y3.size HZ1.out
 have HY2:=hiD y2
 have HFIN:Hid (∀ w3,KeptR c2 z Dr (q+(xs.length+1)) (fun k=>(Value.slice ap m d).ownBlock=some k) w2 w3->KeptM col z Dr q (xs.length+2) (fun k=>((Value.slice ai n c).ownBlock=some k\/sealsB xs xs.length k)\/(Value.slice ap m d).ownBlock=some k) w1 w3):=fun w3 h3=>by
  obtain⟨c3,v1,v2,v3,v4⟩:=h3
  refine⟨c3,y1.trans v1 v3.size,by rw[show q+(xs.length+2)=q+(xs.length+1)+1 by omega];exact v2,⟨v3.os.trans y3.os,v3.tape.trans y3.tape,v3.output.trans y3.output,leT y3.size v3.size,fun k hk he=>?_⟩,fun k f1 f2 f3=>v4 k (y4 k f1 f2 (fun e=>f3 (Or.inl e))) (ltL f2 y3.size) (fun e=>f3 (Or.inr e))⟩
  have he1:¬((z+13<=col k/\col k<=z+23)\/((Value.slice ai n c).ownBlock=some k\/sealsB xs xs.length k)):=fun e=>he (e.imp id Or.inl)
  refine(v3.block k (ltL hk y3.size) (fun e=>?_)).trans (y3.block k hk he1)
  rcases e with e|e
  ·rcases y1 k with e2|e2
   ·exact he (Or.inl (by omega))
   ·have:=y4 k e2.1 hk (fun e=>he1 (Or.inr e));omega
  ·exact he (Or.inr (Or.inr e))
 clear x1 x2 y1 y2 y3 y4 HK2 HD1 HI1 HO1
 go_wp2_with fail
 refine(keepOuts_any c2 z Dr (q+(xs.length+1)) (.slice ap m d) _ HY2 HZ2 HO2 (by omega)).mono ?_
 rintro e w3 ⟨rfl,hk3⟩
 have HK3:Hid _:=HFIN.out w3 hk3
 clear hk3 x22
 go_wp2
 go_end0
 refine⟨rfl,?_⟩
 exact KeptM.pre HK3 (by rw[HXe.out];exact HB1)
end
end Go.Proofs.YtffgpepngcnjeabGreat
