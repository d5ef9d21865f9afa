import Derived.Test.YtffgpepngcnjeabGreatSac
import Derived.BigQuiet
namespace Go.Proofs.YtffgpepngcnjeabGreat
set_option maxRecDepth 100000
set_option maxHeartbeats 2000000
section
open Go.RowKit
variable {w w2 w' W:World} {B b o off g n BI N k BO X:Nat} {v y x z u:Value} {l:List Int} {t:Int} {xs:List InD} {ys:LII} {ao:OAd} {a:Addr} {bs:List Nat} {p q r s:Nat×Nat}
theorem own2 (w:World) (base:Nat) (a b:Int) (hb:base<=w.heap.size):OwnInts (w.alloc (.cells #[.int .i64 a,.int .i64 b] 3)) base (.slice (some ⟨w.heap.size,0,none⟩) 2 2) [a,b]:=by
 refine⟨rfl,Or.inr ⟨w.heap.size,2,#[.int .i64 a,.int .i64 b],rfl,hb,?_,leR,by unfold maxLen;omega,rfl,rfl⟩⟩
 show(w.heap.push _)[w.heap.size]?=_
 rw[Array.getElem?_push_size]
theorem inL_len (xs:List InD):(inL xs).length=2*xs.length:=by
 induction xs with
 |nil=>rfl
 |cons x r ih=>simp only[inL,List.flatMap_cons,List.length_append,List.length_cons] at ih ⊢;simp only[List.length_nil];omega
theorem outL_len (ys:LII):(outL ys).length=2*ys.length:=by
 induction ys with
 |nil=>rfl
 |cons x r ih=>simp only[outL,List.flatMap_cons,List.length_append,List.length_cons] at ih ⊢;simp only[List.length_nil];omega
theorem len1 (t:Int) (n:Nat) (xs:List InD) (k:Nat) (h:k<=10):([t,(n:Int)]++inL (xs.take k)).length<=22:=by
 rw[List.length_append,inL_len]
 have:=List.length_take_le k xs
 simp only[List.length_cons,List.length_nil]
 omega
theorem len2 (l:List Int) (ys:LII) (k:Nat) (h:k<=8) (hl:l.length<=30):(l++outL (ys.take k)).length<=46:=by
 rw[List.length_append,outL_len]
 have:=List.length_take_le k ys
 omega
theorem len_snoc (l:List Int) (x:Int) (n:Nat) (h:l.length<=n):(l++[x]).length<=n+1:=by simp;omega
theorem cell_move (h:Below B w w2) (hc:w.cell? ⟨b,o,none⟩=some v) (hb:b<B):w2.cell? ⟨b,o,none⟩=some v:=
 (h.cell (p:=⟨b,o,none⟩) hb).trans hc
theorem snoc1 (l:List Int) (xs:List InD) (k:Nat) (h:k<xs.length):((l++inL (xs.take k))++[(xs.getD k dIn).id])++[(xs.getD k dIn).pos]=l++inL (xs.take (k+1)):=by
 rw[inL_snoc xs k h]
 simp
theorem snoc2 (l:List Int) (ys:LII) (k:Nat) (h:k<ys.length):((l++outL (ys.take k))++[(ys.getD k (0,0)).1])++[(ys.getD k (0,0)).2]=l++outL (ys.take (k+1)):=by
 rw[outL_snoc ys k h]
 simp
theorem mixable_mem (h:∀ x∈l,0<=x/\x<=1099511627776):Mixable l:=by
 intro j hj
 have:=h _ (List.getElem_mem hj)
 simpa [List.getD,hj] using this
theorem idL_mixable (h:rTx t xs ys=true):Mixable (idL t xs ys):=by
 apply mixable_mem
 intro x hx
 simp only[rTx,rIns,rOuts,Bool.and_eq_true,decide_eq_true_iff,List.all_eq_true] at h
 obtain⟨h1,⟨h2,h3⟩,h4,h5⟩:=h
 simp only[idL,inL,outL,List.mem_append,List.mem_cons,List.mem_flatMap,List.not_mem_nil,or_false] at hx
 rcases hx with ((h|h)|h)|h
 ·rcases h with rfl|rfl
  ·exact h1
  ·omega
 ·obtain⟨y,hy,rfl|rfl⟩:=h
  ·have:=rIn_bd (h3 y hy);omega
  ·have:=rIn_bd (h3 y hy);omega
 ·subst h;omega
 ·obtain⟨y,hy,rfl|rfl⟩:=h
  ·have:=rOut_bd (h5 y hy);omega
  ·have:=rOut_bd (h5 y hy);omega
theorem rId_no (t:Int) (ai:OAd) (n c:Nat) (ap:OAd) (m d:Nat) (xs:List InD) (ys:LII) (w:World) (hx:InsAt w ai xs) (hn:xs.length=n) (hy:OutsAt w ap ys) (hm:ys.length=m) (hr:rTx t xs ys=false):
 Calls Tryz.prog 169 #[.agg #[.int .i64 t,.slice ai n c,.slice ap m d]] w fun e w'=>e=.returned (.int .i64 0)/\Below w.heap.size w w':=by
 have HN:=hiD hn
 have HM:=hiD hm
 have HX:=hiD hx
 have HY:=hiD hy
 clear hn hm hx hy
 have bl:∀ o,Below w.heap.size w (w.alloc o):=fun o=>(Below.refl _ _).alloc leR _
 have HB:Hid _:=bl
 clear bl
 go_enter Tryz.func169,Tryz.ntmps169
 go_wp2_with fail
 refine(rRight_any _ _ _ _ _ _ _ xs ys _ (HX.out.grown (HB _)) HN (HY.out.grown (HB _)) HM).mono ?_
 rintro e w1 ⟨rfl,hb1⟩
 rw[hr]
 go_wp2
 go_ret
 exact⟨rfl,below_blk (HB _) hb1⟩
theorem rId_yes (t:Int) (ai:OAd) (n c:Nat) (ap:OAd) (m d:Nat) (xs:List InD) (ys:LII) (w:World) (hx:InsAt w ai xs) (hn:xs.length=n) (hy:OutsAt w ap ys) (hm:ys.length=m) (hr:rTx t xs ys=true):
 Calls Tryz.prog 169 #[.agg #[.int .i64 t,.slice ai n c,.slice ap m d]] w fun e w'=>e=.returned (.int .i64 (Mk.mixL 1 (idL t xs ys)))/\Below w.heap.size w w':=by
 have hmix:=idL_mixable hr
 obtain⟨ht,hn10,_,hm8,_⟩:=rTx_parts hr
 rw[hn] at hn10
 rw[hm] at hm8
 have HE:Hid (idL t xs ys=(([t,(n:Int)]++inL xs)++[(m:Int)])++outL ys):=by show _=_;unfold idL;rw[hn,hm]
 have HN:=hiD hn
 have HM:=hiD hm
 have HX:=hiD hx
 have HY:=hiD hy
 have HMX:Hid _:=hmix
 clear hn hm hx hy hmix
 have bl:∀ o,Below w.heap.size w (w.alloc o):=fun o=>(Below.refl _ _).alloc leR _
 have HB:Hid _:=bl
 clear bl
 go_enter Tryz.func169,Tryz.ntmps169
 go_wp2_with fail
 refine(rRight_any _ _ _ _ _ _ _ xs ys _ (HX.out.grown (HB _)) HN (HY.out.grown (HB _)) HM).mono ?_
 rintro e w1 ⟨rfl,hb1⟩
 rw[hr]
 have hw1:=below_blk (HB.out _) hb1
 have hsz1:w.heap.size<w1.heap.size:=by have:=hb1.size;rw[World.size_alloc] at this;omega
 obtain⟨x0,x1,x2⟩:=box3 hb1
 have ho:=own2 w1 w1.heap.size t (n:Int) leR
 have HO0:Hid _:=ho
 clear ho
 go_wp2
 go_loopw [4,5] (fun v i wr=>∃ k:Nat,k<=n/\i=.int .i64 k/\OwnInts wr w1.heap.size v ([t,(n:Int)]++inL (xs.take k))/\Below w1.heap.size w1 wr) (fun _ i _=>n-(intOf i).toNat)
 case atStart=>exact⟨0,Nat.zero_le _,rfl,HO0,(Below.refl _ _).alloc leR _⟩
 case round=>
  obtain⟨k,hk,rfl,hown,hbl⟩:=hrel
  have hsz:=hbl.size
  have hw:=below_blk hw1 hbl
  have y1:=cell_move hbl x1 hsz1
  have y2:=cell_move hbl x2 hsz1
  have hl1:=len1 t n xs k (by omega)
  by_cases hlt:k<n
  ·rcases HX.out with hnil|⟨b,off,rfl,hrow⟩
   ·have:=HN.out;rw[hnil] at this;simp at this;omega
   obtain⟨⟨c0,c1,c2⟩,_⟩:=(hrow.grown hw1) k (by rw[HN.out];exact hlt)
   have hblt:=cell_lt c0
   have hblt':b<w1.heap.size:=hblt
   have d0:=cell_move hbl c0 hblt
   have d1:=cell_move hbl c1 hblt
   have HS:Hid _:=snoc1 [t,(n:Int)] xs k (by rw[HN.out];exact hlt)
   clear hrow c0 c1 c2 hblt
   generalize xs.getD k dIn=y at d0 d1 HS
   obtain⟨yid,ypos,yao,yn,yc,yl⟩:=y
   simp only at d0 d1 HS
   generalize [t,(n:Int)]++inL (xs.take k)=L at hown hl1 HS
   have HBB:Hid _:=hblt'
   have HSZ:Hid _:=hsz1
   clear hblt'
   go_wp2_with (first|(at_builtin;refine wpList_app1 wr rfl (.tmp 24) (.tmp 31) rfl w1.heap.size u4 L yid ?_ ?_ hown hsz ?_ ?_;rfl;rfl;omega;intro v2 w2 hown2 hb2;have hsz2:=leT hsz hb2.size;have e1:=cell_move hb2 y1 HSZ.out;have e2:=cell_move hb2 d1 HBB)|(at_builtin;refine wpList_app1 w2 rfl (.tmp 33) (.tmp 40) rfl w1.heap.size v2 (L++[yid]) ypos ?_ ?_ hown2 hsz2 ?_ ?_;rfl;rfl;(have:=len_snoc L yid 22 hl1;omega);intro v3 w3 hown3 hb3))
   go_roundw
   case rel=>exact⟨k+1,by omega,by go_num,by rw[<-HS.out];exact hown3,(hbl.trans hb2).trans hb3⟩
   case measure=>simp[intOf];omega
  ·have hkn:k=n:=by omega
   subst hkn
   have HT:Hid (inL (xs.take k)=inL xs):=by show _=_;rw[List.take_of_length_le (by rw[HN.out];omega)]
   rw[HT.out] at hown hl1
   generalize [t,(k:Int)]++inL xs=L at hown hl1 HE
   have HSZ:Hid _:=hsz1
   have hl2:=len_snoc L (m:Int) 22 hl1
   clear hlt
   go_wp2_with (at_builtin;refine wpList_app1 wr rfl (.tmp 42) (.tmp 46) rfl w1.heap.size u4 L (m:Int) ?_ ?_ hown hsz ?_ ?_;rfl;rfl;omega;intro v2 w2 hown2 hb2;have e2:=cell_move hb2 y2 HSZ)
   have hbl2:=hbl.trans hb2
   have hsz2:=hbl2.size
   clear hbl hb2 hown
   generalize L++[(m:Int)]=M at hown2 hl2 HE
   go_loopw [4,6] (fun v i ws=>∃ j:Nat,j<=m/\i=.int .i64 j/\OwnInts ws w1.heap.size v (M++outL (ys.take j))/\Below w1.heap.size w1 ws) (fun _ i _=>m-(intOf i).toNat)
   case atStart=>exact⟨0,Nat.zero_le _,rfl,by simpa [outL] using hown2,hbl2⟩
   case round=>
    obtain⟨j,hj,rfl,hown,hbl⟩:=hrel
    have hsz:=hbl.size
    have hw:=below_blk hw1 hbl
    have y2:=cell_move hbl x2 HSZ.out
    have hl3:=len2 M ys j (by omega) (by omega)
    by_cases hjt:j<m
    ·rcases HY.out with hnil|⟨b,off,rfl,hrow⟩
     ·have:=HM.out;rw[hnil] at this;simp at this;omega
     obtain⟨c0,c1⟩:=(hrow.grown hw1) j (by rw[HM.out];exact hjt)
     have hblt':=cell_lt c0
     have d0:=cell_move hbl c0 hblt'
     have d1:=cell_move hbl c1 hblt'
     have HS:Hid _:=snoc2 M ys j (by rw[HM.out];exact hjt)
     have HBB:Hid _:=hblt'
     clear hrow c0 c1 hblt'
     generalize ys.getD j (0,0)=y at d0 d1 HS
     obtain⟨ya,yv⟩:=y
     simp only at d0 d1 HS
     generalize M++outL (ys.take j)=L2 at hown hl3 HS
     go_wp2_with (first|(at_builtin;refine wpList_app1 wr rfl (.tmp 55) (.tmp 62) rfl w1.heap.size u4 L2 ya ?_ ?_ hown hsz ?_ ?_;rfl;rfl;omega;intro v2 w2 hown2 hb2;have hsz2:=leT hsz hb2.size;have e1:=cell_move hb2 y2 HSZ.out;have e2:=cell_move hb2 d1 HBB)|(at_builtin;refine wpList_app1 w2 rfl (.tmp 64) (.tmp 71) rfl w1.heap.size v2 (L2++[ya]) yv ?_ ?_ hown2 hsz2 ?_ ?_;rfl;rfl;(have:=len_snoc L2 ya 46 hl3;omega);intro v3 w3 hown3 hb3))
     go_roundw
     case rel=>exact⟨j+1,by omega,by go_num,by rw[<-HS.out];exact hown3,(hbl.trans hb2).trans hb3⟩
     case measure=>simp[intOf];omega
    ·have HT2:Hid (outL (ys.take j)=outL ys):=by show _=_;rw[List.take_of_length_le (by rw[HM.out];omega)]
     rw[HT2.out,<-HE.out] at hown
     rw[HT2.out,<-HE.out] at hl3
     obtain⟨ao,cc,rfl,hat,_⟩:=hown.slice
     go_wp2_with fail
     refine(mixed_any _ _ _ _ _ _ (by omega) (by omega) hat rfl HMX (by omega)).mono ?_
     rintro e w' ⟨rfl,rfl⟩
     go_wp2
     go_ret
     exact⟨rfl,hw⟩
theorem run_copy_wide (P:Program) (w:World) (dT sT ty elem:TypeId) (g o dLen dCap:Nat) (a:Addr) (sLen sCap:Nat) (cur:Array Value) (t:TypeId) (cs:List Value) (sz:Nat)
 (hu:P.underlying dT=some (.slice elem)) (hs:(P.info? elem).map (·.size)=some sz)
 (hg:w.heap[g]?=some (.cells cur t (0,0))) (hn:cs.length=Nat.min sLen dLen*sz)
 (hsrc:∀ j v,cs[j]?=some v->w.cell? (a.add j)=some v) (hfit:o+cs.length<=cur.size) (h1:∀ v∈cs,v.oneCell'=true):
 (Builtin.copy_ #[dT,sT] ty #[.slice (some ⟨g,o,none⟩) dLen dCap,.slice (some a) sLen sCap]).run P w =
   .ok (goInt (Nat.min sLen dLen:Nat)) (w.setRow g (cur.toList.take o++cs++cur.toList.drop (o+cs.length)).toArray):=by
 have hl:=run_loadCells_list (P:=P) w a cs hsrc
 have hst:=run_storeCells_at P g o t cs 0 cur w hg (by simpa using hfit) h1
 cases hq:P.info? elem with
 |none=>simp[hq] at hs
 |some i=>
  have hi:i.size=sz:=by simpa [hq] using hs
  have hn':min sLen dLen*sz=cs.length:=hn.symm
  simp[Builtin.copy_,run_underlying hu,Builtin.lenOf,Builtin.firstCells,sizeOf,typeInfo,hq,hi,hn',hl,hst]
theorem info93:(Tryz.prog.info? 93).map (fun i=>(i.zero,i.size,i.bytes))=some (some (.agg #[.int .i64 0,.int .i64 0]),2,16):=by kernel_rfl
theorem sizeInfo56:Option.map (fun x:TypeInfo=>x.size) (Tryz.prog.info? 93)=some 2:=by kernel_rfl
theorem outL_get (ys:LII):∀ j,j<ys.length->(outL ys).getD (j*2) 0=(ys.getD j (0,0)).1/\(outL ys).getD (j*2+1) 0=(ys.getD j (0,0)).2:=by
 induction ys with
 |nil=>intro j hj;simp at hj
 |cons y r ih=>
  intro j hj
  cases j with
  |zero=>exact⟨rfl,rfl⟩
  |succ j=>
   have:=ih j (by simpa using hj)
   have e1:(j+1)*2=j*2+2:=by omega
   rw[e1]
   exact this
theorem outs_of_row (h:Row w b off (outL ys)):OutsRow w b off ys:=by
 intro j hj
 have hl:=outL_len ys
 have g:=outL_get ys j hj
 refine⟨?_,?_⟩
 ·rw[<-g.1];exact h (j*2) (by omega)
 ·rw[<-g.2,Nat.add_assoc];exact h (j*2+1) (by omega)
theorem row_of_outs (h:OutsRow w b off ys):Row w b off (outL ys):=by
 intro j hj
 have hl:=outL_len ys
 have hj2:j / 2<ys.length:=by omega
 have g:=outL_get ys (j / 2) hj2
 have c:=h (j / 2) hj2
 by_cases e:j % 2=0
 ·have ej:j / 2*2=j:=by omega
  rw[ej] at g c
  rw[g.1]
  exact c.1
 ·have ej:j / 2*2+1=j:=by omega
  rw[ej] at g
  have c2:=c.2
  rw[Nat.add_assoc,ej] at c2
  rw[g.2]
  exact c2
theorem made2_at (n j:Nat) (h:j<n):(madeCells #[Value.int .i64 0,Value.int .i64 0] n)[j]?=some (.int .i64 0):=by
 simp only[madeCells,Array.getElem?_map]
 rw[Array.getElem?_eq_getElem (by simpa using h)]
 have h2:j % 2=0\/j % 2=1:=by omega
 rcases h2 with h2|h2<;>simp[h2]
theorem row_spliced2 {t:TypeId} (hn:l.length=n*2)
 (h:w.heap[g]?=some (.cells (splice (madeCells #[Value.int .i64 0,Value.int .i64 0] ((n+1)*2)).toList 0 (l.map (Value.int .i64))).toArray t)):Row w g 0 (l++[0,0])/\Free w g 0 ((n+1)*2):=by
 constructor
 ·intro j hj
  rw[List.length_append] at hj
  simp only[World.cell?,h,Nat.zero_add,splice,List.take_zero,List.nil_append,List.length_map,hn]
  simp only[List.getElem?_toArray,List.getD]
  by_cases hlt:j<n*2
  ·simp only[List.getElem?_append_left (show j<(l.map (Value.int .i64)).length by rw[List.length_map];omega),List.getElem?_append_left (show j<l.length by omega)]
   simp[hn,hlt]
  ·have e:j=n*2\/j=n*2+1:=by simp at hj;omega
   rw[List.getElem?_append_right (by rw[List.length_map];omega),List.getElem?_append_right (by omega)]
   rw[List.length_map,hn,List.getElem?_drop,Array.getElem?_toList,made2_at _ _ (by omega)]
   rcases e with e|e
   ·subst e;simp
   ·subst e;simp
 ·intro j hj
  simp[World.frozen?,h]
theorem make_outs (n:Nat) (hn:n<=8796093022208):∀ u:World,(Instr.makeSlice 28 (.int .i64 ((n:Int)+1)) (.int .i64 ((n:Int)+1))).run Tryz.prog u =
 .ok (.slice (some ⟨u.heap.size,0,none⟩) (n+1) (n+1)) (u.alloc (.cells (madeCells #[.int .i64 0,.int .i64 0] ((n+1)*2)) 93)):=fun u=>by
 obtain⟨i0,hi,hz0,hz1,hz2⟩:=info_parts info93
 have h:=run_make (P:=Tryz.prog) u 28 93 i0 (.agg #[.int .i64 0,.int .i64 0]) Tryz.underlying28 hi hz0 .i64 .i64 ((n:Int)+1) ((n:Int)+1) (by omega) (Int.le_refl _) (by rw[hz2];omega) (by omega)
 have e:((n:Int)+1).toNat=n+1:=by omega
 rw[e] at h
 simpa [hz1,Value.cells] using h
theorem len2_made (l:List Int) (n:Nat) (h:l.length=n*2):(l.map (Value.int .i64)).length=n.min (n+1)*2:=by
 rw[List.length_map,h]
 rw[show n.min (n+1)=n from Nat.min_eq_left (by omega)]
theorem copy_outs (ao:OAd) (n c:Nat) (l:List Int) (w:World) (hr:IntsAt w ao l) (hn:l.length=n*2) (h0:ao=none->c=0):
 ∃ w1,Sem.run Tryz.prog (Builtin.copy_ #[28,28] 3 #[.slice (some ⟨w.heap.size,0,none⟩) (n+1) (n+1),.slice ao n c]) (w.alloc (.cells (madeCells #[.int .i64 0,.int .i64 0] ((n+1)*2)) 93))=.ok (.int .i64 n) w1/\
  Row w1 w.heap.size 0 (l++[0,0])/\Free w1 w.heap.size 0 ((n+1)*2)/\Below w.heap.size w w1:=by
 have hheap:=heap_made w (madeCells #[Value.int .i64 0,.int .i64 0] ((n+1)*2)) 93
 cases ao with
 |none=>
  have hl:l=[]:=by
   rcases hr with h|⟨b,off,h,_⟩
   ·exact h
   ·cases h
  subst hl
  have e:n=0:=by simp at hn;omega
  subst e
  rw[h0 rfl]
  have hrf:=row_spliced2 (w:=w.alloc (.cells (madeCells #[.int .i64 0,.int .i64 0] ((0+1)*2)) 93)) (g:=w.heap.size) (n:=0) (l:=[]) (t:=93) rfl (by rw[hheap];rfl)
  exact⟨_,run_copy_nil Tryz.prog _ 28 28 3 93 _ _ _ Tryz.underlying28 (by rw[sizeInfo56];rfl),hrf.1,hrf.2,(Below.refl _ _).alloc leR _⟩
 |some a=>
  have hcs:=copy_src (W:=w.alloc (.cells (madeCells #[.int .i64 0,.int .i64 0] ((n+1)*2)) 93)) hr (bAl _ _) w.heap.size
  have hsrc:∀ (j:Nat) (v:Value),(l.map (Value.int .i64))[j]?=some v->(w.alloc (.cells (madeCells #[.int .i64 0,.int .i64 0] ((n+1)*2)) 93)).cell? (a.add j)=some v:=by
   intro j v hj
   by_cases hp:0<(l.map (Value.int .i64)).length
   ·obtain⟨_,ad,e,h⟩:=hcs hp
    cases e
    exact h j v hj
   ·have:l.map (Value.int .i64)=[]:=List.length_eq_zero_iff.1 (by omega)
    rw[this] at hj
    simp at hj
  have hrun:=run_copy_wide Tryz.prog (w.alloc (.cells (madeCells #[.int .i64 0,.int .i64 0] ((n+1)*2)) 93)) 28 28 3 93 w.heap.size 0 (n+1) (n+1) a n c (madeCells #[Value.int .i64 0,.int .i64 0] ((n+1)*2)) 93 (l.map (Value.int .i64)) 2 Tryz.underlying28 sizeInfo56 hheap (len2_made l n hn) hsrc (by rw[List.length_map,size_madeCells];omega) (ints_one l)
  have hh:=setRow_heap (w.alloc (.cells (madeCells #[.int .i64 0,.int .i64 0] ((n+1)*2)) 93)) w.heap.size (madeCells #[Value.int .i64 0,.int .i64 0] ((n+1)*2)) (splice (madeCells #[Value.int .i64 0,.int .i64 0] ((n+1)*2)).toList 0 (l.map (Value.int .i64))).toArray 93 (0,0) hheap
  have hrf:=row_spliced2 hn hh
  refine⟨_,?_,hrf.1,hrf.2,below_setRow (bAl _ _) leR _⟩
  rw[hrun,show n.min (n+1)=n from Nat.min_eq_left (by omega)]
  simp[splice,goInt]
theorem ints_of_outs (h:OutsAt w ao ys):IntsAt w ao (outL ys):=by
 rcases h with rfl|⟨b,off,rfl,hr⟩
 ·exact Or.inl rfl
 ·exact Or.inr ⟨b,off,rfl,row_of_outs hr⟩
theorem outs_last (hn:ys.length=n) (h:Row w g 0 (outL ys++[0,0])):
 OutsRow ((w.setCell ⟨g,n*2,none⟩ (.int .i64 (-5))).setCell ⟨g,n*2+1,none⟩ (.int .i64 (-5))) g 0 (ys++[(-5,-5)]):=by
 have hl:(outL ys).length=n*2:=by rw[outL_len,hn];omega
 have h1:=h.set (k:=n*2) (by simp[hl]) (-5)
 have h2:=h1.set (k:=n*2+1) (by simp[hl]) (-5)
 rw[Nat.zero_add,Nat.zero_add] at h2
 apply outs_of_row
 have e:((outL ys++[0,0]).set (n*2) (-5)).set (n*2+1) (-5)=outL (ys++[(-5,-5)]):=by
  rw[<-hl]
  unfold outL
  rw[List.flatMap_append]
  simp
 rw[e] at h2
 exact h2
theorem OutsRow.head {y:Int×Int} (h:OutsRow w b off (ys++[y])):OutsRow w b off ys:=by
 intro j hj
 have:=h j (by rw[List.length_append];omega)
 simp only[List.getD] at this ⊢
 rw[List.getElem?_append_left hj] at this
 exact this
theorem OutsRow.last {y:Int×Int} (h:OutsRow w b 0 (ys++[y])) (hn:ys.length=n):OutCells w b (n*2) y:=by
 have:=h n (by simp[hn])
 rw[Nat.zero_add] at this
 subst hn
 simpa [List.getD] using this
theorem sameOuts_nil (ao bo:OAd) (c d:Nat) (w:World):
 Calls Tryz.prog 162 #[.slice ao 0 c,.slice bo 0 d] w fun e w'=>e=.returned (.bool true)/\w=w':=by
 go_enter Tryz.func162,Tryz.ntmps162
 go_wp2
 refine wp_loop_rounds 1 ?_
 rw[rounds_succ]
 go_wp2
 go_ret
 exact⟨rfl,rfl⟩
theorem sameOuts_row (a1 o1 a2 o2 n c d:Nat) (ys:LII) (w:World) (h1:OutsRow w a1 o1 ys) (h2:OutsRow w a2 o2 ys) (hn:ys.length=n) (hm:n<=9223372036854775807):
 Calls Tryz.prog 162 #[.slice (some ⟨a1,o1,none⟩) n c,.slice (some ⟨a2,o2,none⟩) n d] w fun e w'=>e=.returned (.bool true)/\Below w.heap.size w w':=by
 have H1:=hiD h1
 have H2:=hiD h2
 have HN:=hiD hn
 clear h1 h2 hn
 go_enter Tryz.func162,Tryz.ntmps162
 go_wp2
 go_loopw [5] (fun i wr=>∃ k:Nat,k<=n/\i=.int .i64 k/\Below w.heap.size w wr) (fun i _=>n-(intOf i).toNat)
 case atStart=>exact⟨0,Nat.zero_le _,rfl,Below.refl _ _⟩
 case round=>
  obtain⟨k,hk,rfl,hbl⟩:=hrel
  by_cases hlt:k<n
  ·obtain⟨c1,c2⟩:=(H1.out.grown hbl) k (by rw[HN.out];exact hlt)
   obtain⟨c3,c4⟩:=(H2.out.grown hbl) k (by rw[HN.out];exact hlt)
   generalize ys.getD k (0,0)=y at c1 c2 c3 c4
   obtain⟨ya,yv⟩:=y
   simp only at c1 c2 c3 c4
   have k1:(k:Int)<(n:Int):=by omega
   have k0:(0:Int)<=(k:Int):=by omega
   have gd:(ya !=ya)=false:=by simp
   go_wp2
   go_quiet (fail)
   go_wp2
   go_roundw
   case rel=>exact⟨k+1,by omega,by go_num,below_drewN hbl _⟩
   case measure=>simp[intOf];omega
  ·go_wp2
   go_ret
   exact⟨rfl,hbl⟩
theorem sameOuts_any (ao bo:OAd) (n c d:Nat) (ys:LII) (w:World) (h1:OutsAt w ao ys) (h2:OutsAt w bo ys) (hn:ys.length=n) (hm:n<=9223372036854775807):
 Calls Tryz.prog 162 #[.slice ao n c,.slice bo n d] w fun e w'=>e=.returned (.bool true)/\Below w.heap.size w w':=by
 rcases h1 with rfl|⟨a1,o1,rfl,h1⟩
 ·have h0:n=0:=by rw[<-hn];rfl
  subst h0
  refine(sameOuts_nil ao bo c d w).mono ?_
  rintro e w' ⟨rfl,rfl⟩
  exact⟨rfl,Below.refl _ _⟩
 ·rcases h2 with rfl|⟨a2,o2,rfl,h2⟩
  ·have h0:n=0:=by rw[<-hn];rfl
   subst h0
   refine(sameOuts_nil _ _ c d w).mono ?_
   rintro e w' ⟨rfl,rfl⟩
   exact⟨rfl,Below.refl _ _⟩
  ·exact sameOuts_row a1 o1 a2 o2 n c d ys w h1 h2 hn hm
theorem stillOuts_any (B:Nat) (ao:OAd) (n c:Nat) (ys:LII) (w:World) (ho:OutsRow w B 0 (ys++[(-5,-5)])) (hr:OutsAt w ao ys) (hn:ys.length=n) (hm:n<=8796093022208):
 Calls Tryz.prog 112 #[.slice (some ⟨B,0,none⟩) n (n+1),.slice ao n c] w fun e w'=>e=.returned (.bool true)/\Below w.heap.size w w':=by
 have HN:=hiD hn
 have HO:=hiD ho
 clear hn ho
 go_enter Tryz.func112,Tryz.ntmps112
 go_wp2_with fail
 refine(sameOuts_any _ _ _ _ _ ys _ (Or.inr ⟨_,_,rfl,HO.out.head⟩) hr HN (by omega)).mono ?_
 rintro e w1 ⟨rfl,hb1⟩
 obtain⟨l1,l2⟩:=(HO.out.grown hb1).last HN.out
 simp only at l1 l2
 go_wp2
 go_ret
 exact⟨rfl,hb1⟩
theorem info115:(Tryz.prog.info? 115).map (fun i=>(i.zero,i.size,i.bytes))=some (some (.agg #[.int .i64 0,.int .i64 0,.slice none 0 0]),3,40):=by kernel_rfl
theorem made3_at (n j:Nat) (h:j<n):∃ v,(madeCells #[Value.int .i64 0,Value.int .i64 0,.slice none 0 0] n)[j]?=some v:=by
 rw[Array.getElem?_eq_getElem (by rw[size_madeCells];exact h)]
 exact⟨_,rfl⟩
theorem make_ins (n:Nat) (hn:n<=3518437208883):∀ u:World,(Instr.makeSlice 33 (.int .i64 ((n:Int)+1)) (.int .i64 ((n:Int)+1))).run Tryz.prog u =
 .ok (.slice (some ⟨u.heap.size,0,none⟩) (n+1) (n+1)) (u.alloc (.cells (madeCells #[.int .i64 0,.int .i64 0,.slice none 0 0] ((n+1)*3)) 115)):=fun u=>by
 obtain⟨i0,hi,hz0,hz1,hz2⟩:=info_parts info115
 have h:=run_make (P:=Tryz.prog) u 33 115 i0 (.agg #[.int .i64 0,.int .i64 0,.slice none 0 0]) Tryz.underlying33 hi hz0 .i64 .i64 ((n:Int)+1) ((n:Int)+1) (by omega) (Int.le_refl _) (by rw[hz2];omega) (by omega)
 have e:((n:Int)+1).toNat=n+1:=by omega
 rw[e] at h
 simpa [hz1,Value.cells] using h
def hIn (x:InD) (b:Nat):InD:=⟨x.id,x.pos,some ⟨b,0,none⟩,x.n,x.n+1,x.l⟩
structure HIns (w:World) (BI:Nat) (xs:List InD) (k:Nat) (bs:List Nat):Prop where
 len:bs.length=k
 done:∀ j,j<k->InCells w BI (j*3) (hIn (xs.getD j dIn) (bs.getD j 0))/\Row w (bs.getD j 0) 0 ((xs.getD j dIn).l++[-5])/\BI<bs.getD j 0
structure Room (w:World) (BI N:Nat):Prop where
 here:∀ j,j<N->∃ v,w.cell? ⟨BI,j,none⟩=some v
 free:∀ j,j<N->w.frozen? ⟨BI,j,none⟩=false
theorem Room.below (h:Room w BI N) (hb:Below B w w') (hB:BI<B):Room w' BI N:=
 ⟨fun j hj=>by obtain⟨v,hv⟩:=h.here j hj;exact⟨v,cell_move hb hv hB⟩,fun j hj=>(hb.frozen (p:=⟨BI,j,none⟩) hB).trans (h.free j hj)⟩
theorem Room.set (h:Room w BI N) (a:Addr) (v:Value):Room (w.setCell a v) BI N:=by
 refine⟨fun j hj=>?_,fun j hj=>by rw[World.frozen?_setCell];exact h.free j hj⟩
 obtain⟨u,hu⟩:=h.here j hj
 by_cases e:a=⟨BI,j,none⟩
 ·subst e
  exact⟨v,World.cell?_setCell_same _ _ _ hu⟩
 ·exact⟨u,by rw[World.cell?_setCell_other _ _ _ _ e];exact hu⟩
theorem Room.drew (h:Room w BI N):Room w.drew BI N:=⟨h.here,h.free⟩
def put3 (w:World) (b o:Nat) (x y z:Value):World:=((w.setCell ⟨b,o,none⟩ x).setCell ⟨b,o+1,none⟩ y).setCell ⟨b,o+2,none⟩ z
theorem put3_cells (h0:∃ v,w.cell? ⟨b,o,none⟩=some v) (h1:∃ v,w.cell? ⟨b,o+1,none⟩=some v) (h2:∃ v,w.cell? ⟨b,o+2,none⟩=some v):
 (put3 w b o x y z).cell? ⟨b,o,none⟩=some x/\(put3 w b o x y z).cell? ⟨b,o+1,none⟩=some y/\(put3 w b o x y z).cell? ⟨b,o+2,none⟩=some z:=by
 obtain⟨v0,h0⟩:=h0
 obtain⟨v1,h1⟩:=h1
 obtain⟨v2,h2⟩:=h2
 have ne:∀ i j:Nat,i≠j->(⟨b,o+i,none⟩:Addr)≠⟨b,o+j,none⟩:=fun i j h e=>h (by have:=congrArg Addr.off e;simp only at this;omega)
 have n01:=ne 0 1 (by decide)
 have n02:=ne 0 2 (by decide)
 have n12:=ne 1 2 (by decide)
 simp only[Nat.add_zero] at n01 n02
 unfold put3
 refine⟨?_,?_,?_⟩
 ·rw[World.cell?_setCell_other _ _ _ _ n02.symm,World.cell?_setCell_other _ _ _ _ n01.symm,World.cell?_setCell_same _ _ _ h0]
 ·rw[World.cell?_setCell_other _ _ _ _ n12.symm]
  refine World.cell?_setCell_same _ _ _ (u:=v1) ?_
  rw[World.cell?_setCell_other _ _ _ _ n01]
  exact h1
 ·refine World.cell?_setCell_same _ _ _ (u:=v2) ?_
  rw[World.cell?_setCell_other _ _ _ _ n12,World.cell?_setCell_other _ _ _ _ n02]
  exact h2
theorem put3_other (h:a.block≠b\/(a.off<o\/o+3<=a.off)):(put3 w b o x y z).cell? a=w.cell? a:=by
 have ne:∀ i:Nat,i<3->(⟨b,o+i,none⟩:Addr)≠a:=by
  intro i hi e
  subst e
  simp only at h
  omega
 have n0:=ne 0 (by decide)
 simp only[Nat.add_zero] at n0
 unfold put3
 rw[World.cell?_setCell_other _ _ _ _ (ne 2 (by decide)),World.cell?_setCell_other _ _ _ _ (ne 1 (by decide)),World.cell?_setCell_other _ _ _ _ n0]
theorem put3_below (h:Below B W w) (hb:B<=b):Below B W (put3 w b o x y z):=((h.setCell hb _).setCell hb _).setCell hb _
theorem put3_room (h:Room w BI N):Room (put3 w b o x y z) BI N:=((h.set _ _).set _ _).set _ _
theorem HIns.below (h:HIns w BI xs k bs) (hb:Below w.heap.size w w'):HIns w' BI xs k bs:=by
 refine⟨h.len,fun j hj=>?_⟩
 obtain⟨h1,h2,h3⟩:=h.done j hj
 exact⟨h1.below hb (cell_lt h1.c0),h2.grown hb,h3⟩
theorem HIns.step (h:HIns w BI xs k bs) (hroom:Room w BI ((n+1)*3)) (hk:k<n) (hb:BI<b) (hr:Row w b 0 ((xs.getD k dIn).l++[-5])):
 HIns (put3 w BI (k*3) (.int .i64 (xs.getD k dIn).id) (.int .i64 (xs.getD k dIn).pos) (.slice (some ⟨b,0,none⟩) (xs.getD k dIn).n ((xs.getD k dIn).n+1))) BI xs (k+1) (bs++[b]):=by
 refine⟨by simp[h.len],fun j hj=>?_⟩
 by_cases e:j=k
 ·subst e
  have eb:(bs++[b]).getD j 0=b:=by rw[<-h.len];simp[List.getD]
  rw[eb]
  obtain⟨q0,q1,q2⟩:=put3_cells (x:=.int .i64 (xs.getD j dIn).id) (y:=.int .i64 (xs.getD j dIn).pos) (z:=.slice (some ⟨b,0,none⟩) (xs.getD j dIn).n ((xs.getD j dIn).n+1)) (hroom.here (j*3) (by omega)) (hroom.here (j*3+1) (by omega)) (hroom.here (j*3+2) (by omega))
  exact⟨⟨q0,q1,q2⟩,fun i hi=>(put3_other (Or.inl (by simp only;omega))).trans (hr i hi),hb⟩
 ·have hj':j<k:=by omega
  have eb:(bs++[b]).getD j 0=bs.getD j 0:=by simp only[List.getD];rw[List.getElem?_append_left (by rw[h.len];exact hj')]
  rw[eb]
  obtain⟨h1,h2,h3⟩:=h.done j hj'
  refine⟨⟨(put3_other (Or.inr (by simp only;omega))).trans h1.c0,(put3_other (Or.inr (by simp only;omega))).trans h1.c1,(put3_other (Or.inr (by simp only;omega))).trans h1.c2⟩,fun i hi=>(put3_other (Or.inl (by simp only;omega))).trans (h2 i hi),h3⟩
theorem HIns.end (h:HIns w BI xs k bs) (hk:k=n):HIns (put3 w BI (n*3) x y z) BI xs k bs:=by
 refine⟨h.len,fun j hj=>?_⟩
 obtain⟨h1,h2,h3⟩:=h.done j hj
 exact⟨⟨(put3_other (Or.inr (by simp only;omega))).trans h1.c0,(put3_other (Or.inr (by simp only;omega))).trans h1.c1,(put3_other (Or.inr (by simp only;omega))).trans h1.c2⟩,fun i hi=>(put3_other (Or.inl (by simp only;omega))).trans (h2 i hi),h3⟩
theorem HIns.drew (h:HIns w BI xs k bs):HIns w.drew BI xs k bs:=
 ⟨h.len,fun j hj=>⟨⟨(h.done j hj).1.c0,(h.done j hj).1.c1,(h.done j hj).1.c2⟩,(h.done j hj).2.1,(h.done j hj).2.2⟩⟩
structure HTx (w:World) (BI BO:Nat) (xs:List InD) (ys:LII):Prop where
 ins:∃ bs,HIns w BI xs xs.length bs
 last:w.cell? ⟨BI,xs.length*3,none⟩=some (.int .i64 (-5))/\w.cell? ⟨BI,xs.length*3+1,none⟩=some (.int .i64 (-5))/\w.cell? ⟨BI,xs.length*3+2,none⟩=some (.slice none 0 0)
 outs:OutsRow w BO 0 (ys++[(-5,-5)])
theorem HTx.drew (h:HTx w BI BO xs ys):HTx w.drew BI BO xs ys:=by
 obtain⟨⟨bs,h1⟩,h2,h3⟩:=h
 exact⟨⟨bs,h1.drew⟩,h2,h3⟩
theorem HTx.grown (h:HTx w BI BO xs ys) (hb:Below w.heap.size w w'):HTx w' BI BO xs ys:=by
 obtain⟨⟨bs,h1⟩,⟨l0,l1,l2⟩,h3⟩:=h
 exact⟨⟨bs,h1.below hb⟩,⟨cell_move hb l0 (cell_lt l0),cell_move hb l1 (cell_lt l1),cell_move hb l2 (cell_lt l2)⟩,h3.grown hb⟩
theorem HTx.put (h:HTx w (X+1+1) BO xs ys) (hBO:X+1+1<BO):HTx (put3 w (X+1) 0 x y z) (X+1+1) BO xs ys:=by
 obtain⟨⟨bs,h1⟩,⟨l0,l1,l2⟩,h3⟩:=h
 refine⟨⟨bs,h1.len,fun j hj=>?_⟩,⟨(put3_other (Or.inl (by simp only;omega))).trans l0,(put3_other (Or.inl (by simp only;omega))).trans l1,(put3_other (Or.inl (by simp only;omega))).trans l2⟩,fun j hj=>?_⟩
 ·obtain⟨a,b,c⟩:=h1.done j hj
  exact⟨⟨(put3_other (Or.inl (by simp only;omega))).trans a.c0,(put3_other (Or.inl (by simp only;omega))).trans a.c1,(put3_other (Or.inl (by simp only;omega))).trans a.c2⟩,fun i hi=>(put3_other (Or.inl (by simp only;omega))).trans (b i hi),c⟩
 ·exact⟨(put3_other (Or.inl (by simp only;omega))).trans (h3 j hj).1,(put3_other (Or.inl (by simp only;omega))).trans (h3 j hj).2⟩
theorem room_new (W:World) (n:Nat):Room (W.alloc (.cells (madeCells #[.int .i64 0,.int .i64 0,.slice none 0 0] ((n+1)*3)) 115)) W.heap.size ((n+1)*3):=by
 refine⟨fun j hj=>?_,fun j _=>World.frozen?_alloc_at _ _ _ _ rfl⟩
 obtain⟨v,hv⟩:=made3_at ((n+1)*3) j hj
 exact⟨v,by rw[World.cell?_alloc_new];exact hv⟩
theorem htx_start (w:World) (t:Int) (ai ap:OAd) (n c m d:Nat):
 ∃ W2,Hid (W2=(w.alloc (.cells #[.int .i64 t,.slice ai n c,.slice ap m d] 35)).alloc (.cells #[.int .i64 0,.slice none 0 0,.slice none 0 0] 35))/\W2.heap.size=w.heap.size+1+1/\Below w.heap.size w W2/\
  (∀ wr,Below (w.heap.size+1+1) W2 wr->wr.cell? ⟨w.heap.size,0,none⟩=some (.int .i64 t)/\wr.cell? ⟨w.heap.size,1,none⟩=some (.slice ai n c)/\wr.cell? ⟨w.heap.size,2,none⟩=some (.slice ap m d))/\
  (∀ wr,Below (w.heap.size+1+1) W2 wr->(wr.cell? ⟨w.heap.size+1,0,none⟩=some (.int .i64 0)/\wr.cell? ⟨w.heap.size+1,1,none⟩=some (.slice none 0 0)/\wr.cell? ⟨w.heap.size+1,2,none⟩=some (.slice none 0 0))/\
    wr.frozen? ⟨w.heap.size+1,0,none⟩=false/\wr.frozen? ⟨w.heap.size+1,1,none⟩=false/\wr.frozen? ⟨w.heap.size+1,2,none⟩=false):=by
 refine⟨_,rfl,by simp,(bAl _ _).alloc (by simp) _,fun wr h=>?_,fun wr h=>?_⟩
 ·refine⟨cell_move h ?_ (by omega),cell_move h ?_ (by omega),cell_move h ?_ (by omega)⟩
  all_goals
   rw[World.cell?_alloc_past _ _ _ (by simp),World.cell?_alloc_new]
   rfl
 ·refine⟨⟨cell_move h ?_ (by omega),cell_move h ?_ (by omega),cell_move h ?_ (by omega)⟩,(h.frozen (p:=⟨w.heap.size+1,0,none⟩) (by simp only;omega)).trans ?_,(h.frozen (p:=⟨w.heap.size+1,1,none⟩) (by simp only;omega)).trans ?_,(h.frozen (p:=⟨w.heap.size+1,2,none⟩) (by simp only;omega)).trans ?_⟩
  ·rw[World.cell?_alloc_at _ _ _ _ (by simp)];rfl
  ·rw[World.cell?_alloc_at _ _ _ _ (by simp)];rfl
  ·rw[World.cell?_alloc_at _ _ _ _ (by simp)];rfl
  ·exact World.frozen?_alloc_at _ _ _ _ (by simp)
  ·exact World.frozen?_alloc_at _ _ _ _ (by simp)
  ·exact World.frozen?_alloc_at _ _ _ _ (by simp)
theorem two_boxes (w:World) (a b c a' b' c':Value):
 ∃ W2,Hid (W2=(w.alloc (.cells #[a,b,c] 35)).alloc (.cells #[a',b',c'] 35))/\W2.heap.size=w.heap.size+1+1/\Below w.heap.size w W2/\
  (∀ wr,Below (w.heap.size+1+1) W2 wr->(wr.cell? ⟨w.heap.size,0,none⟩=some a/\wr.cell? ⟨w.heap.size,1,none⟩=some b/\wr.cell? ⟨w.heap.size,2,none⟩=some c)/\
    (wr.cell? ⟨w.heap.size+1,0,none⟩=some a'/\wr.cell? ⟨w.heap.size+1,1,none⟩=some b'/\wr.cell? ⟨w.heap.size+1,2,none⟩=some c')):=by
 refine⟨_,rfl,by simp,(bAl _ _).alloc (by simp) _,fun wr h=>⟨?_,?_⟩⟩
 ·refine⟨cell_move h ?_ (by omega),cell_move h ?_ (by omega),cell_move h ?_ (by omega)⟩
  all_goals
   rw[World.cell?_alloc_past _ _ _ (by simp),World.cell?_alloc_new]
   rfl
 ·refine⟨cell_move h ?_ (by omega),cell_move h ?_ (by omega),cell_move h ?_ (by omega)⟩
  all_goals
   rw[World.cell?_alloc_at _ _ _ _ (by simp)]
   rfl
theorem keep4 (hb:Below w.drew.heap.size w.drew w2) (h1:w.cell? ⟨p.1,p.2,none⟩=some x) (h2:w.cell? ⟨q.1,q.2,none⟩=some y) (h3:w.cell? ⟨r.1,r.2,none⟩=some z) (h4:w.cell? ⟨s.1,s.2,none⟩=some u):
 w2.cell? ⟨p.1,p.2,none⟩=some x/\w2.cell? ⟨q.1,q.2,none⟩=some y/\w2.cell? ⟨r.1,r.2,none⟩=some z/\w2.cell? ⟨s.1,s.2,none⟩=some u:=
 ⟨cell_move hb h1 (cell_lt h1),cell_move hb h2 (cell_lt h2),cell_move hb h3 (cell_lt h3),cell_move hb h4 (cell_lt h4)⟩
theorem stillTx_any (t:Int) (BI BO:Nat) (ai:OAd) (n c:Nat) (ap:OAd) (m d:Nat) (xs:List InD) (ys:LII) (w:World) (hh:HTx w BI BO xs ys) (hx:InsAt w ai xs) (hn:xs.length=n) (hy:OutsAt w ap ys) (hm:ys.length=m) (n1:n<=3518437208883) (m1:m<=8796093022208):
 Calls Tryz.prog 158 #[.agg #[.int .i64 t,.slice (some ⟨BI,0,none⟩) n (n+1),.slice (some ⟨BO,0,none⟩) m (m+1)],.agg #[.int .i64 t,.slice ai n c,.slice ap m d]] w fun e w'=>e=.returned (.bool true)/\Below w.heap.size w w':=by
 have HN:=hiD hn
 have HM:=hiD hm
 have HX:=hiD hx
 have HY:=hiD hy
 have HH:=hiD hh
 clear hn hm hx hy hh
 go_enter Tryz.func158,Tryz.ntmps158
 go_wp2
 obtain⟨W2,HW2,hsz2,hbel2,bx⟩:=two_boxes w (.int .i64 t) (.slice (some ⟨BI,0,none⟩) n (n+1)) (.slice (some ⟨BO,0,none⟩) m (m+1)) (.int .i64 t) (.slice ai n c) (.slice ap m d)
 rw[<-HW2.out]
 have HBL2:Hid _:=hbel2
 have HBX:Hid _:=bx
 clear hbel2 bx
 generalize hX:w.heap.size=X at *
 have HXX:Hid _:=hX
 clear hX
 have HSZ2:=hiD hsz2
 clear hsz2
 go_loopw [6] (fun i wr=>∃ k:Nat,k<=n/\i=.int .i64 k/\Below (X+1+1) W2 wr) (fun i _=>n-(intOf i).toNat)
 case atStart=>exact⟨0,Nat.zero_le _,rfl,Below.refl _ _⟩
 case round=>
  obtain⟨k,hk,rfl,hbl⟩:=hrel
  obtain⟨⟨x0,x1,x2⟩,z0,z1,z2⟩:=HBX.out wr hbl
  have hw:Below X w wr:=HBL2.out.trans (hbl.mono (by omega))
  have hww:Below w.heap.size w wr:=by rw[HXX.out];exact hw
  by_cases hlt:k<n
  ·rcases HX.out with hnil|⟨b,off,rfl,hrow⟩
   ·have:=HN.out;rw[hnil] at this;simp at this;omega
   obtain⟨⟨c0,c1,c2⟩,hok⟩:=(hrow.grown hww) k (by rw[HN.out];exact hlt)
   obtain⟨bs,hins⟩:=(HH.out.grown hww).ins
   obtain⟨⟨d0,d1,d2⟩,hrB,_⟩:=hins.done k (by rw[HN.out];exact hlt)
   clear hrow hins
   generalize xs.getD k dIn=y at c0 c1 c2 hok d0 d1 d2 hrB
   generalize bs.getD k 0=B at d0 d1 d2 hrB
   obtain⟨yid,ypos,yao,yn,yc,yl⟩:=y
   obtain⟨k1,k2,k3,k4⟩:=hok
   simp only[hIn] at c0 c1 c2 k1 k2 k3 k4 d0 d1 d2 hrB
   have K1:=hiD k1
   have K2:=hiD k2
   have KR:=hiD hrB
   have hkeep:=fun (w2:World) (hb:Below wr.drew.heap.size wr.drew w2)=>keep4 (p:=(X,1)) (q:=(BI,k*3+2)) (r:=(X+1,1)) (s:=(b,off+k*3+2)) hb x1 d2 z1 c2
   have HKEEP:Hid _:=hkeep
   clear k1 k2 k4 hrB hkeep
   have e1:(k:Int)<(n:Int):=by omega
   have e2:(0:Int)<=(k:Int):=by omega
   go_wp2
   go_region_held3 (fun w'=>w'.cell? ⟨X,1,none⟩=some (.slice (some ⟨BI,0,none⟩) n (n+1))/\w'.cell? ⟨BI,k*3+2,none⟩=some (.slice (some ⟨B,0,none⟩) yn (yn+1))/\w'.cell? ⟨X+1,1,none⟩=some (.slice (some ⟨b,off,none⟩) n c)/\w'.cell? ⟨b,off+k*3+2,none⟩=some (.slice yao yn yc)) (first|go_keep|exact HKEEP _ (by assumption)) ((go_at_call 201;refine(stillInts_any _ _ _ _ yl _ ?_ ?_ K2.out k3).mono ?_;exact KR.out;exact K1.out;rintro e w2 ⟨rfl,hb2⟩))
   all_goals
    have a1:=cell_move hb2 x1 (cell_lt x1)
    have a2:=cell_move hb2 d0 (cell_lt d0)
    have a3:=cell_move hb2 d1 (cell_lt d1)
    have a4:=cell_move hb2 z1 (cell_lt z1)
    have a5:=cell_move hb2 c0 (cell_lt c0)
    have a6:=cell_move hb2 c1 (cell_lt c1)
    have g1:(yid !=yid)=false:=by simp
    have g2:(ypos !=ypos)=false:=by simp
    have hszw:X+1+1<=wr.heap.size:=by have:=hbl.size;rw[HSZ2.out] at this;exact this
    go_wp2
    go_quiet (fail)
    go_wp2
    go_roundw
    case rel=>exact⟨k+1,by omega,by go_num,below_drewN (hbl.drew.trans (hb2.mono (by simpa using hszw))) _⟩
    case measure=>simp[intOf];omega
  ·have hkn:k=n:=by omega
   subst hkn
   obtain⟨l0,l1,l2⟩:=(HH.out.grown hww).last
   rw[HN.out] at l0 l1 l2
   have hso:=(HH.out.grown hww).outs
   have HSO:Hid _:=hso
   clear hso
   have hyo:=HY.out.grown hww
   have HYO:Hid _:=hyo
   clear hyo
   go_wp2_with fail
   refine(stillOuts_any _ _ _ _ ys _ HSO HYO HM m1).mono ?_
   rintro e w3 ⟨rfl,hb3⟩
   have p0:=cell_move hb3 l0 (cell_lt l0)
   have p1:=cell_move hb3 l1 (cell_lt l1)
   have p2:=cell_move hb3 l2 (cell_lt l2)
   clear l0 l1 l2 x0 x1 x2 z0 z1 z2
   go_wp2
   go_ret
   exact⟨rfl,below_blk hww hb3⟩
end
end Go.Proofs.YtffgpepngcnjeabGreat
