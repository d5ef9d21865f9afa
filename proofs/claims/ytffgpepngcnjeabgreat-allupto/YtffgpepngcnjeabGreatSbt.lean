import Derived.Test.YtffgpepngcnjeabGreatSbk
namespace Go.Proofs.YtffgpepngcnjeabGreat
set_option maxRecDepth 100000
set_option maxHeartbeats 8000000
section
open Go.RowKit
variable {w:World} {g j:Nat} {z1:Int}
theorem row6 (hv:VRow w g 0 ((List.replicate j z1).flatMap (patOf 5))) (hc:∀ i,i<6->∃ v,w.cell? ⟨g,j*6+i,none⟩=some v):
 VRow ((((((w.setCell ⟨g,j*6,none⟩ (.int .i64 z1)).setCell ⟨g,j*6+1,none⟩ (.int .i64 z1)).setCell ⟨g,j*6+2,none⟩ (.int .i64 z1)).setCell ⟨g,j*6+3,none⟩ (.int .i64 z1)).setCell ⟨g,j*6+4,none⟩ (.int .i64 z1)).setCell ⟨g,j*6+5,none⟩ (.int .i64 z1)) g 0 ((List.replicate (j+1) z1).flatMap (patOf 5)):=by
 have hl:((List.replicate j z1).flatMap (patOf 5)).length=j*6:=rep_len (patOf 5) 6 (fun _=>rfl) j z1
 obtain⟨v0,d0⟩:=hc 0 (by omega)
 obtain⟨v1,d1⟩:=hc 1 (by omega)
 obtain⟨v2,d2⟩:=hc 2 (by omega)
 obtain⟨v3,d3⟩:=hc 3 (by omega)
 obtain⟨v4,d4⟩:=hc 4 (by omega)
 obtain⟨v5,d5⟩:=hc 5 (by omega)
 have h1:=VRow.put hv (n:=j*6) (by omega) (.int .i64 z1) ⟨_,d0⟩
 have h2:=VRow.put h1 (n:=j*6+1) (by simp only[List.length_append,List.length_cons,List.length_nil];omega) (.int .i64 z1) ⟨_,so d1 (by omega)⟩
 have h3:=VRow.put h2 (n:=j*6+2) (by simp only[List.length_append,List.length_cons,List.length_nil];omega) (.int .i64 z1) ⟨_,so (so d2 (by omega)) (by omega)⟩
 have h4:=VRow.put h3 (n:=j*6+3) (by simp only[List.length_append,List.length_cons,List.length_nil];omega) (.int .i64 z1) ⟨_,so (so (so d3 (by omega)) (by omega)) (by omega)⟩
 have h5:=VRow.put h4 (n:=j*6+4) (by simp only[List.length_append,List.length_cons,List.length_nil];omega) (.int .i64 z1) ⟨_,so (so (so (so d4 (by omega)) (by omega)) (by omega)) (by omega)⟩
 have h6:=VRow.put h5 (n:=j*6+5) (by simp only[List.length_append,List.length_cons,List.length_nil];omega) (.int .i64 z1) ⟨_,so (so (so (so (so d5 (by omega)) (by omega)) (by omega)) (by omega)) (by omega)⟩
 rw[rep_snoc (patOf 5) j z1]
 show VRow _ g 0 ((List.replicate j z1).flatMap (patOf 5)++[.int .i64 z1,.int .i64 z1,.int .i64 z1,.int .i64 z1,.int .i64 z1,.int .i64 z1])
 simpa only[List.append_assoc,List.cons_append,List.nil_append] using h6
theorem keepCoinsA_some (col:NtN) (z Dr q g n cc:Nat) (w:World) (hd:DrA col z w Dr q) (hz:∀ k,w.heap.size<=k->col k=0) (hr:Room w g (cc*6)) (hgc:col g=0) (hgw:g<w.heap.size) (hnc:n<=cc) (hq:q<=20000000) (hcc:cc<=9223372036854775807):
 Calls Tryz.prog 124 #[.pointer (some ⟨Dr,0,none⟩),.slice (some ⟨g,0,none⟩) n cc] w fun e w'=>e=.returned (.tuple #[])/\KeptR col z Dr q (fun k=>k=g) w w':=by
 obtain⟨z0,n0⟩:=hd.n0
 have f0:=hd.fz 0
 have hDl:Dr<w.heap.size:=hd.lt
 have hDg:Dr≠g:=fun e=>by have:=hd.kd;rw[e,hgc] at this;omega
 have HR:=hiD hr
 have HKD:=hiD hd.kd
 have HZ:=hiD hz
 have HLZ:Hid (∀ k,k=g->col k=0):=fun k e=>by rw[e];exact hgc
 have e0:(0:Int)<=(cc:Int):=by omega
 have e1:(cc:Int)<=(cc:Int):=by omega
 obtain⟨z1,hz1e⟩:∃ z1,IntKind.i64.wrap (z0+1)=z1:=⟨_,rfl⟩
 have HD1:Hid (DrA col z (w.setCell ⟨Dr,0,none⟩ (.int .i64 z1)) Dr q):=(hd.tick z1).1
 have c1:=(hd.tick z1).2
 have HW1:Hid (Wrote (fun k=>k=g\/k=Dr) w (w.setCell ⟨Dr,0,none⟩ (.int .i64 z1))):=(Wrote.refl _ w).set Dr 0 _ (Or.inr rfl)
 have HS1:Hid ((w.setCell ⟨Dr,0,none⟩ (.int .i64 z1)).heap.size=w.heap.size):=by show _=_;simp
 clear hd hr hz hgc
 go_enter Tryz.func124,Tryz.ntmps124
 go_wp2
 clear hz1e
 generalize w.setCell ⟨Dr,0,none⟩ (.int .i64 z1)=w1 at *
 clear n0 f0
 go_loopw [5] (fun i wr=>∃ j:Nat,j<=cc/\i=.int .i64 j/\Wrote (fun k=>k=g) w1 wr/\Hid (VRow wr g 0 ((List.replicate j z1).flatMap (patOf 5)))) (fun i _=>cc-(intOf i).toNat)
 case atStart=>exact⟨0,Nat.zero_le _,rfl,Wrote.refl _ _,fun j hj=>by simp at hj⟩
 case round=>
  obtain⟨j,hj,rfl,hw,hv⟩:=hrel
  have m0:=hw.fr.cell c1 hDg
  by_cases hjt:j<cc
  ·have hro:=(HW1.out.trans (hw.weak (fun k _ e=>Or.inl e))).room _ _ HR.out
   obtain⟨v0,d0⟩:=hro.here (j*6) (by omega)
   obtain⟨v1,d1⟩:=hro.here (j*6+1) (by omega)
   obtain⟨v2,d2⟩:=hro.here (j*6+2) (by omega)
   obtain⟨v3,d3⟩:=hro.here (j*6+3) (by omega)
   obtain⟨v4,d4⟩:=hro.here (j*6+4) (by omega)
   obtain⟨v5,d5⟩:=hro.here (j*6+5) (by omega)
   have fz0:=hro.free (j*6) (by omega)
   have fz1:=hro.free (j*6+1) (by omega)
   have fz2:=hro.free (j*6+2) (by omega)
   have fz3:=hro.free (j*6+3) (by omega)
   have fz4:=hro.free (j*6+4) (by omega)
   have fz5:=hro.free (j*6+5) (by omega)
   have e2:(0:Int)<=(j:Int):=by omega
   have e3:(j:Int)<(cc:Int):=by omega
   have hgD:g≠Dr:=fun e=>hDg e.symm
   have HWW:=hiD hw
   have HP0:=hiD hv.out
   have HC6:Hid (∀ i,i<6->∃ v,wr.cell? ⟨g,j*6+i,none⟩=some v):=fun i hi=>hro.here (j*6+i) (by omega)
   clear hro hw hv
   go_wp2
   go_region
   all_goals
    go_wp2
    go_roundw
    case rel=>
     refine⟨j+1,by omega,by go_num,((((((HWW.out.set g (j*6) _ rfl).set g (j*6+1) _ rfl).set g (j*6+2) _ rfl).set g (j*6+3) _ rfl).set g (j*6+4) _ rfl).set g (j*6+5) _ rfl).drew,?_⟩
     show VRow _ _ _ _
     exact VRow.drew (row6 HP0 HC6)
    case measure=>simp[intOf];omega
  ·have hjc:j=cc:=by omega
   subst hjc
   have hwz:=hw.fr.size
   have hD2:DrA col z wr Dr q:=HD1.out.mv hw.fr (fun k e=>by rw[e,HLZ.out g rfl];omega) (fun _ _=>rfl) leR
   have HXK:Hid (KeptAt (patOf 5) wr ⟨some ⟨g,0,none⟩,j,j⟩ z1):=Or.inr ⟨hcc,g,rfl,hv.out⟩
   have HXC:Hid (∀ k,(CbD.mk (some ⟨g,0,none⟩) j j).blk=some k->col k=0/\k<wr.heap.size):=fun k hk=>by
    unfold CbD.blk at hk
    split at hk
    ·cases hk
    ·simp only[Option.map_some,Option.some.injEq] at hk
     subst hk
     exact⟨HLZ _ rfl,by have:=HS1.out;omega⟩
   have HXL:Hid (∀ k,(CbD.mk (some ⟨g,0,none⟩) j j).blk=some k->k=g):=fun k hk=>by
    unfold CbD.blk at hk
    split at hk
    ·cases hk
    ·simp only[Option.map_some,Option.some.injEq] at hk
     exact hk.symm
   have HZR:Hid (∀ k,wr.heap.size<=k->col k=0):=fun k hk=>HZ.out k (by have:=HS1.out;omega)
   have HFW:Hid (Fr (fun k=>k=Dr\/k=g) w wr):=(HW1.out.fr.weak (fun k _ e=>e.elim Or.inr Or.inl)).trans (hw.fr.weak (fun k _ e=>Or.inr e))
   clear hw hv hwz
   obtain⟨V,W,cs,ns,hk⟩:=hD2.kn 5 (by omega) (by omega)
   have m5:=hk.ca
   have mf5:=hD2.fz 5
   have HD2:=hiD hD2
   have HK:=hiD hk
   have HOC:=hiD hk.oc
   have HLC:Hid (cs.length<=q):=by show _<=_;rw[hk.ln];exact hk.lq
   have HLN:=hiD hk.lq
   clear hD2 hk
   go_upto_region 7 with (at_builtin;refine wpList_appR 74 24 _ Tryz.underlying74 info45 rfl (by decide) cb1 cbv_one (wr.alloc (.cells #[.slice (some ⟨g,0,none⟩) j j] 45)) rfl _ _ rfl 0 wr.heap.size 1 V cs ⟨some ⟨g,0,none⟩,j,j⟩ (by rfl) (by rfl) (HOC.out.alloc _) (vrow_new _ _ _) (Nat.zero_le _) (by have:=HLC.out;unfold maxLen;omega) (by have:=HLC.out;omega) ?_;intro g5 cap5 w5 hown5 hg5 hl5 hlt5;have h6:=dr_one HD2 HK (by omega) HZR m0 HXK HXC rfl hown5 hg5 hl5;have k5:=h6.1;have kf5:=h6.2.1;have H6:Hid _:=h6;clear h6)
   obtain⟨_,_,hB6,fr6,ex6,ey6⟩:=H6.out
   have x0:=hB6.c0
   have x10:=hB6.cb
   have xf10:=hB6.fz 10
   have HB6:Hid _:=hB6
   have HFR6:Hid _:=fr6
   have HEX6:Hid _:=ex6
   have HEY6:Hid _:=ey6
   have hbv:some Dr≠W.ownBlock:=fun e=>by have h1:=hB6.kw _ e.symm;have h2:=hB6.kd;omega
   have HON:=hiD hB6.on
   have hD6:Dr<(w5.setCell ⟨Dr,5,none⟩ (.slice (some ⟨g5,0,none⟩) (cs.length+1) cap5)).heap.size:=cell_lt x0
   clear k5 kf5 H6 m0 m5 mf5 hown5 hg5 hl5 hlt5 hB6 fr6 ex6 ey6 HOC
   generalize hw6:w5.setCell ⟨Dr,5,none⟩ (.slice (some ⟨g5,0,none⟩) (cs.length+1) cap5)=w6 at *
   have HW6:=hiD hw6
   clear hw6
   go_region_law (refine step_appR 44 8 _ Tryz.underlying44 info3 rfl (by decide) iv1 iv_one _ ?_ (.tmp 65) (.tmp 70) ?_ 0 w6.heap.size 1 W ns z1 ?_ ?_ ?_ ?_ ?_ ?_ ?_ ?_;rfl;rfl;rfl;rfl;exact OwnRec.drew (HON.out.alloc _);exact VRow.drew (vrow_new w6 _ _);exact Nat.zero_le _;(have:=HLN.out;unfold maxLen;omega);(have:=HLN.out;omega);intro g7 cap7 w7 hown7 hg7 hl7 hlt7;have k0:=keepO hg7 x10 hbv;have k1:=keepF hg7 xf10 hD6 hbv)
   all_goals
    go_wp2
    go_end0
    refine⟨rfl,?_⟩
    have e6:=HW6.out
    subst e6
    exact dr_end (a:=5) HKD HK.out.kv HK.out.kw (by omega) HZ HFW HXL HB6 HFR6 HEX6 HEY6 rfl hown7 hg7 hl7
theorem keepCoinsA_none (col:NtN) (z Dr q:Nat) (w:World) (hd:DrA col z w Dr q) (hz:∀ k,w.heap.size<=k->col k=0) (hq:q<=20000000):
 Calls Tryz.prog 124 #[.pointer (some ⟨Dr,0,none⟩),.slice none 0 0] w fun e w'=>e=.returned (.tuple #[])/\KeptR col z Dr q (fun _=>False) w w':=by
 obtain⟨z0,n0⟩:=hd.n0
 have f0:=hd.fz 0
 have hDl:Dr<w.heap.size:=hd.lt
 have HKD:=hiD hd.kd
 have HZ:=hiD hz
 have HLZ:Hid (∀ k,False->col k=0):=fun k e=>e.elim
 obtain⟨z1,hz1e⟩:∃ z1,IntKind.i64.wrap (z0+1)=z1:=⟨_,rfl⟩
 have HD1:Hid (DrA col z (w.setCell ⟨Dr,0,none⟩ (.int .i64 z1)) Dr q):=(hd.tick z1).1
 have c1:=(hd.tick z1).2
 have HFW0:Hid (Fr (fun k=>k=Dr\/False) w (w.setCell ⟨Dr,0,none⟩ (.int .i64 z1))):=(Fr.refl _ w).set Dr 0 _ (fun _=>Or.inl rfl)
 have HS1:Hid ((w.setCell ⟨Dr,0,none⟩ (.int .i64 z1)).heap.size=w.heap.size):=by show _=_;simp
 clear hd hz
 go_enter Tryz.func124,Tryz.ntmps124
 go_wp2
 clear hz1e
 generalize w.setCell ⟨Dr,0,none⟩ (.int .i64 z1)=w1 at *
 clear n0 f0
 refine wp_loop_rounds 1 ?_
 rw[rounds_succ]
 obtain⟨wr,rfl⟩:∃ wr:World,wr=w1:=⟨_,rfl⟩
 have m0:=c1
 have HFW:=hiD HFW0.out
 have hD2:DrA col z wr Dr q:=HD1.out
 have HXK:Hid (KeptAt (patOf 5) wr ⟨none,0,0⟩ z1):=Or.inl rfl
 have HXC:Hid (∀ k,(CbD.mk none 0 0).blk=some k->col k=0/\k<wr.heap.size):=fun k hk=>by
  unfold CbD.blk at hk
  rw[if_pos rfl] at hk
  cases hk
 have HXL:Hid (∀ k,(CbD.mk none 0 0).blk=some k->False):=fun k hk=>by
  unfold CbD.blk at hk
  rw[if_pos rfl] at hk
  cases hk
 have HZR:Hid (∀ k,wr.heap.size<=k->col k=0):=fun k hk=>HZ.out k (by have:=HS1.out;omega)
 clear c1
 obtain⟨V,W,cs,ns,hk⟩:=hD2.kn 5 (by omega) (by omega)
 have m5:=hk.ca
 have mf5:=hD2.fz 5
 have HD2:=hiD hD2
 have HK:=hiD hk
 have HOC:=hiD hk.oc
 have HLC:Hid (cs.length<=q):=by show _<=_;rw[hk.ln];exact hk.lq
 have HLN:=hiD hk.lq
 clear hD2 hk
 go_upto_region 7 with (at_builtin;refine wpList_appR 74 24 _ Tryz.underlying74 info45 rfl (by decide) cb1 cbv_one (wr.alloc (.cells #[.slice none 0 0] 45)) rfl _ _ rfl 0 wr.heap.size 1 V cs ⟨none,0,0⟩ (by rfl) (by rfl) (HOC.out.alloc _) (vrow_new _ _ _) (Nat.zero_le _) (by have:=HLC.out;unfold maxLen;omega) (by have:=HLC.out;omega) ?_;intro g5 cap5 w5 hown5 hg5 hl5 hlt5;have h6:=dr_one HD2 HK (by omega) HZR m0 HXK HXC rfl hown5 hg5 hl5;have k5:=h6.1;have kf5:=h6.2.1;have H6:Hid _:=h6;clear h6)
 obtain⟨_,_,hB6,fr6,ex6,ey6⟩:=H6.out
 have x0:=hB6.c0
 have x10:=hB6.cb
 have xf10:=hB6.fz 10
 have HB6:Hid _:=hB6
 have HFR6:Hid _:=fr6
 have HEX6:Hid _:=ex6
 have HEY6:Hid _:=ey6
 have hbv:some Dr≠W.ownBlock:=fun e=>by have h1:=hB6.kw _ e.symm;have h2:=hB6.kd;omega
 have HON:=hiD hB6.on
 have hD6:Dr<(w5.setCell ⟨Dr,5,none⟩ (.slice (some ⟨g5,0,none⟩) (cs.length+1) cap5)).heap.size:=cell_lt x0
 clear k5 kf5 H6 m0 m5 mf5 hown5 hg5 hl5 hlt5 hB6 fr6 ex6 ey6 HOC
 generalize hw6:w5.setCell ⟨Dr,5,none⟩ (.slice (some ⟨g5,0,none⟩) (cs.length+1) cap5)=w6 at *
 have HW6:=hiD hw6
 clear hw6
 go_region_law (refine step_appR 44 8 _ Tryz.underlying44 info3 rfl (by decide) iv1 iv_one _ ?_ (.tmp 65) (.tmp 70) ?_ 0 w6.heap.size 1 W ns z1 ?_ ?_ ?_ ?_ ?_ ?_ ?_ ?_;rfl;rfl;rfl;rfl;exact OwnRec.drew (HON.out.alloc _);exact VRow.drew (vrow_new w6 _ _);exact Nat.zero_le _;(have:=HLN.out;unfold maxLen;omega);(have:=HLN.out;omega);intro g7 cap7 w7 hown7 hg7 hl7 hlt7;have k0:=keepO hg7 x10 hbv;have k1:=keepF hg7 xf10 hD6 hbv)
 all_goals
  go_wp2
  go_end0
  refine⟨rfl,?_⟩
  have e6:=HW6.out
  subst e6
  exact dr_end (a:=5) HKD HK.out.kv HK.out.kw (by omega) HZ HFW HXL HB6 HFR6 HEX6 HEY6 rfl hown7 hg7 hl7
theorem keepCoinsA_any (col:NtN) (z Dr q:Nat) (v:Value) (w:World) (hd:DrA col z w Dr q) (hz:∀ k,w.heap.size<=k->col k=0) (hv:Handed 6 col w v) (hq:q<=20000000):
 Calls Tryz.prog 124 #[.pointer (some ⟨Dr,0,none⟩),v] w fun e w'=>e=.returned (.tuple #[])/\KeptR col z Dr q (fun k=>v.ownBlock=some k) w w':=by
 rcases hv with rfl|⟨g,n,cc,rfl,h1,h2,h3,h4,h5⟩
 ·refine(keepCoinsA_none col z Dr q w hd hz hq).mono ?_
  rintro e w' ⟨rfl,h⟩
  exact⟨rfl,h.weak (fun k e=>e.elim)⟩
 ·refine(keepCoinsA_some col z Dr q g n cc w hd hz h1 h2 h3 h4 hq h5).mono ?_
  rintro e w' ⟨rfl,h⟩
  exact⟨rfl,h.weak (fun k e=>by rw[e];rfl)⟩
end
end Go.Proofs.YtffgpepngcnjeabGreat
