import Derived.Test.YtffgpepngcnjeabGreatSay
import Derived.Test.YtffgpepngcnjeabGreatSaq
namespace Go.Proofs.YtffgpepngcnjeabGreat
set_option maxRecDepth 100000
set_option maxHeartbeats 8000000
section
open Go.RowKit
variable {w:World} {base base' e size n:Nat} {v:Value} {cs:List Value}
def indexR (ts:List Int) (n:Nat) (a:Int):Int:=idxOf (fun x:Int=>x== a) (ts.take n) 0
theorem index_any (ar:OAd) (nr cr:Nat) (v:Value) (ts:List Int) (n:Nat) (a:Int) (w:World) (ht:IntsAt w ar ts) (hn:ts.length=nr) (hx:n<=nr) (n1:nr<=1000):
 Calls Tryz.prog 181 #[.agg #[.slice ar nr cr,v],.int .i64 (n:Int),.int .i64 a] w fun e w'=>e=.returned (.int .i64 (indexR ts n a))/\Below w.heap.size w w':=by
 have hb1:Below w.heap.size w (w.alloc (.cells #[.slice ar nr cr,v] 236)):=(Below.refl _ _).alloc leR _
 have x0:(w.alloc (.cells #[.slice ar nr cr,v] 236)).cell? ⟨w.heap.size,0,none⟩=some (.slice ar nr cr):=by rw[World.cell?_alloc_new];rfl
 have HT:=hiD (ht.grown hb1)
 have HN:=hiD hn
 have HTN:Hid ((ts.take n).length=n):=by show _=_;rw[List.length_take];omega
 clear ht hn
 go_enter Tryz.func181,Tryz.ntmps181
 go_wp2
 generalize w.alloc (.cells #[.slice ar nr cr,v] 236)=w1 at *
 go_loop [7] (fun i=>∃ k:Nat,k<=n/\i=.int .i64 k/\Hid (idxOf (fun x:Int=>x== a) ((ts.take n).drop k) k=indexR ts n a)) (fun i=>n-(intOf i).toNat)
 case atStart=>exact⟨0,Nat.zero_le _,rfl,rfl⟩
 case round=>
  obtain⟨k,hk,rfl,hz⟩:=hrel
  by_cases hlt:k<n
  ·rcases HT.out with hnil|⟨gt,ot,rfl,hrow⟩
   ·have h1:=HN.out;rw[hnil] at h1;simp at h1;omega
   have t0:=hrow k (by rw[HN.out];omega)
   have HS:Hid _:=hz.out
   rw[idxOf_drop _ _ 0 k k (by rw[HTN.out];exact hlt)] at HS
   rw[show(ts.take n).getD k 0=ts.getD k 0 by simp only[List.getD];rw[List.getElem?_take_of_lt hlt]] at HS
   generalize ts.getD k 0=y at t0 HS
   clear hrow
   have e1:(0:Int)<=(k:Int):=by omega
   have e2:(k:Int)<(nr:Int):=by omega
   have e3:(k:Int)<(n:Int):=by omega
   cases hy:(y== a)
   ·have HR:Hid (idxOf (fun x:Int=>x== a) ((ts.take n).drop (k+1)) (k+1)=indexR ts n a):=by show _=_;have:=HS.out;rw[hy] at this;simpa using this
    go_wp2
    go_round
    case rel=>exact⟨k+1,by omega,by go_num,HR⟩
    case measure=>simp[intOf];omega
   ·have HR:Hid (indexR ts n a=(k:Int)):=by show _=_;have:=HS.out;rw[hy] at this;simpa using this.symm
    go_wp2
    go_ret
    exact⟨ret_int HR.out.symm,hb1⟩
  ·have HR:Hid (indexR ts n a=-1):=by show _=_;rw[<-hz.out,List.drop_of_length_le (by rw[HTN.out];omega)];rfl
   have e3:¬(k:Int)<(n:Int):=by omega
   go_wp2
   go_ret
   exact⟨ret_int HR.out.symm,hb1⟩
def aheadD (a b:CoinD):Bool:=aheadZ a b
theorem ahead_any (x y:CoinD) (w:World):Calls Tryz.prog 214 #[coinV x,coinV y] w fun e w'=>e=.returned (.bool (aheadZ x y))/\Below w.heap.size w w':=by
 obtain⟨a0,a1,a2,a3,a4,a5⟩:=x
 obtain⟨b0,b1,b2,b3,b4,b5⟩:=y
 have bl:∀ o o',Below w.heap.size w ((w.alloc o).alloc o'):=fun o o'=>(bAl _ _).alloc (by simp) _
 have HB:Hid _:=bl
 clear bl
 by_cases h:a0<b0
 ·have HE:Hid (aheadZ ⟨a0,a1,a2,a3,a4,a5⟩ ⟨b0,b1,b2,b3,b4,b5⟩=true):=by show _=_;unfold aheadZ;simp only;rw[if_neg (by omega)];simp[h]
  have h1:decide (a0<b0)=true:=by simp[h]
  go_enter Tryz.func214,Tryz.ntmps214
  go_wp2
  go_ret
  exact⟨ret_bool HE.out.symm,HB _ _⟩
 ·have h1:decide (a0<b0)=false:=by rw[decide_eq_false_iff_not];omega
  by_cases h2:a0=b0
  ·subst h2
   have HE:Hid (aheadZ ⟨a0,a1,a2,a3,a4,a5⟩ ⟨a0,b1,b2,b3,b4,b5⟩=decide (a1<b1)):=by show _=_;simp[aheadZ]
   go_enter Tryz.func214,Tryz.ntmps214
   go_wp2
   go_ret
   exact⟨ret_bool HE.out.symm,HB _ _⟩
  ·have HE:Hid (aheadZ ⟨a0,a1,a2,a3,a4,a5⟩ ⟨b0,b1,b2,b3,b4,b5⟩=false):=by show _=_;unfold aheadZ;simp only;rw[if_neg h2,decide_eq_false_iff_not];omega
   have h3:(a0== b0)=false:=by rw[beq_eq_false_iff_ne];exact h2
   go_enter Tryz.func214,Tryz.ntmps214
   go_wp2
   go_ret
   exact⟨ret_bool HE.out.symm,HB _ _⟩
def plGo (c:CoinD):List CoinD->Bool->List CoinD->List CoinD×Bool
 |[],b,out=>(out,b)
 |x::r,b,out=>if aheadZ c x=true/\b=false then plGo c r true (out++[c]++[x]) else plGo c r b (out++[x])
def placedR (l:List CoinD) (c:CoinD):List CoinD:=if (plGo c l false []).2=false then(plGo c l false []).1++[c] else(plGo c l false []).1
theorem plGo_drop (c:CoinD) (l:List CoinD) (k:Nat) (h:k<l.length) (b:Bool) (out:List CoinD):plGo c (l.drop k) b out=if aheadZ c (l.getD k dN)=true/\b=false then plGo c (l.drop (k+1)) true (out++[c]++[l.getD k dN]) else plGo c (l.drop (k+1)) b (out++[l.getD k dN]):=by
 rw[List.drop_eq_getElem_cons h]
 simp only[List.getD,List.getElem?_eq_getElem h,Option.getD_some]
 rfl
theorem owns_lowerN (h:w.ownsRow base e size v n cs) (hb:base'<=base):w.ownsRow base' e size v n cs:=by
 obtain⟨h1,h|⟨g,cap,cur,rfl,hbg,hg⟩⟩:=h
 ·exact⟨h1,Or.inl h⟩
 ·exact⟨h1,Or.inr ⟨g,cap,cur,rfl,leT hb hbg,hg⟩⟩
abbrev OwnN (w:World) (base:Nat) (v:Value) (l:List CoinD):Prop:=OwnRec CoinD.l 107 6 w base v l
theorem placed_any (ao:OAd) (n c:Nat) (l:List CoinD) (x:CoinD) (w:World) (hx:RecAt CoinD.l w ao l) (hn:l.length=n) (hm:n<=100000):
 Calls Tryz.prog 182 #[.slice ao n c,coinV x] w fun e w'=>∃ v,e=.returned v/\OwnN w' w.heap.size v (placedR l x)/\Below w.heap.size w w':=by
 obtain⟨a0,a1,a2,a3,a4,a5⟩:=x
 have HPL:Hid (placedR l ⟨a0,a1,a2,a3,a4,a5⟩=if (plGo ⟨a0,a1,a2,a3,a4,a5⟩ l false []).2=false then(plGo ⟨a0,a1,a2,a3,a4,a5⟩ l false []).1++[⟨a0,a1,a2,a3,a4,a5⟩] else(plGo ⟨a0,a1,a2,a3,a4,a5⟩ l false []).1):=rfl
 have hb1:Below w.heap.size w (w.alloc (.cells #[.int .i64 a0,.int .i64 a1,.int .i64 a2,.int .i64 a3,.int .i64 a4,.int .i64 a5] 107)):=(Below.refl _ _).alloc leR _
 have hv:=vrow_new w [.int .i64 a0,.int .i64 a1,.int .i64 a2,.int .i64 a3,.int .i64 a4,.int .i64 a5] 107
 have HX:=hiD (hx.grown hb1)
 have HBX:=hiD hv
 have HN:=hiD hn
 clear hx hn hv
 go_enter Tryz.func182,Tryz.ntmps182
 go_wp2
 have hTl:w.heap.size<(w.alloc (.cells #[.int .i64 a0,.int .i64 a1,.int .i64 a2,.int .i64 a3,.int .i64 a4,.int .i64 a5] 107)).heap.size:=by simp
 generalize w.alloc (.cells #[.int .i64 a0,.int .i64 a1,.int .i64 a2,.int .i64 a3,.int .i64 a4,.int .i64 a5] 107)=w1 at *
 generalize hTe:w.heap.size=T at *
 have HTe:=hiD hTe
 clear hTe
 generalize hB1:w1.heap.size=B1 at *
 have HB1:=hiD hB1
 clear hB1
 generalize hPG:plGo ⟨a0,a1,a2,a3,a4,a5⟩ l false []=PG at *
 have HPG:=hiD hPG
 clear hPG
 go_loopw [5,6,7] (fun v b i wr=>∃ (k:Nat) (bb:Bool) (out:List CoinD),k<=n/\b=.bool bb/\i=.int .i64 k/\Hid (plGo ⟨a0,a1,a2,a3,a4,a5⟩ (l.drop k) bb out=PG)/\Hid (out.length<=2*k)/\OwnN wr B1 v out/\Below B1 w1 wr) (fun _ _ i _=>n-(intOf i).toNat)
 case atStart=>exact⟨0,false,[],Nat.zero_le _,rfl,rfl,HPG,leR,OwnRec.nil _ _ _ _ _,Below.refl _ _⟩
 case round=>
  obtain⟨k,bb,out,hk,rfl,rfl,hz,hlen,hown,hbl⟩:=hrel
  have hsz:=hbl.size
  rw[HB1.out] at hsz
  obtain⟨x0,x1,x2,x3,x4,x5⟩:=xrow (HBX.out.below hbl hTl)
  by_cases hlt:k<n
  ·rcases HX.out with hnil|⟨gl,ol,rfl,hrow⟩
   ·have h1:=HN.out;rw[hnil] at h1;simp at h1;omega
   have hglt:gl<B1:=by
    have:=hrow.lt (fun e=>by have h3:=rec_len CoinD.l 6 coin6 l;rw[e] at h3;have:=HN.out;simp at h3;omega)
    rw[HB1.out] at this
    exact this
   have HROW:Hid (∀ w9,Below B1 w1 w9->CoinCells w9 gl (ol+k*6) (l.getD k dN)):=fun w9 hb9=>coinCells (hrow.below hb9 hglt) k (by rw[HN.out];exact hlt)
   have HBOX:Hid (∀ w9,Below B1 w1 w9->VRow w9 T 0 (CoinD.l ⟨a0,a1,a2,a3,a4,a5⟩)):=fun w9 hb9=>HBX.out.below hb9 hTl
   have HZ:Hid _:=hz.out
   rw[plGo_drop _ l k (by rw[HN.out];exact hlt)] at HZ
   clear hrow
   generalize l.getD k dN=y at HROW HZ
   obtain⟨y0,y1,y2,y3,y4,y5⟩:=y
   obtain⟨r0,r1,r2,r3,r4,r5⟩:=HROW.out wr hbl
   simp only at r0 r1 r2 r3 r4 r5
   have e1:(0:Int)<=(k:Int):=by omega
   have e2:(k:Int)<(n:Int):=by omega
   have HKB:Hid (∀ w9,Below wr.drew.heap.size wr.drew w9->Below B1 w1 w9):=fun w9 hb9=>(hbl.drew).trans (hb9.mono hsz)
   have HOWN:Hid (OwnN wr.drew B1 u5 out):=OwnRec.drew hown
   clear hown
   have HK9:Hid (∀ w9,Below wr.drew.heap.size wr.drew w9->w9.cell? ⟨T,0,none⟩=some (.int .i64 a0)/\w9.cell? ⟨T,1,none⟩=some (.int .i64 a1)/\w9.cell? ⟨T,2,none⟩=some (.int .i64 a2)/\w9.cell? ⟨T,3,none⟩=some (.int .i64 a3)/\w9.cell? ⟨T,4,none⟩=some (.int .i64 a4)/\w9.cell? ⟨T,5,none⟩=some (.int .i64 a5)/\w9.cell? ⟨gl,ol+k*6,none⟩=some (.int .i64 y0)/\w9.cell? ⟨gl,ol+k*6+1,none⟩=some (.int .i64 y1)/\w9.cell? ⟨gl,ol+k*6+2,none⟩=some (.int .i64 y2)/\w9.cell? ⟨gl,ol+k*6+3,none⟩=some (.int .i64 y3)/\w9.cell? ⟨gl,ol+k*6+4,none⟩=some (.int .i64 y4)/\w9.cell? ⟨gl,ol+k*6+5,none⟩=some (.int .i64 y5)):=fun w9 hb9=>by
    obtain⟨q0,q1,q2,q3,q4,q5⟩:=xrow (HBOX.out w9 (HKB.out w9 hb9))
    obtain⟨p0,p1,p2,p3,p4,p5⟩:=HROW.out w9 (HKB.out w9 hb9)
    exact⟨q0,q1,q2,q3,q4,q5,p0,p1,p2,p3,p4,p5⟩
   have HLN:Hid (out.length<=200000):=by show _<=_;have:=hlen.out;omega
   have HLK:=hiD hlen.out
   go_wp2
   cases hah:aheadZ ⟨a0,a1,a2,a3,a4,a5⟩ ⟨y0,y1,y2,y3,y4,y5⟩
   ·go_region_held3 (fun w'=>w'.cell? ⟨T,0,none⟩=some (.int .i64 a0)/\w'.cell? ⟨T,1,none⟩=some (.int .i64 a1)/\w'.cell? ⟨T,2,none⟩=some (.int .i64 a2)/\w'.cell? ⟨T,3,none⟩=some (.int .i64 a3)/\w'.cell? ⟨T,4,none⟩=some (.int .i64 a4)/\w'.cell? ⟨T,5,none⟩=some (.int .i64 a5)/\w'.cell? ⟨gl,ol+k*6,none⟩=some (.int .i64 y0)/\w'.cell? ⟨gl,ol+k*6+1,none⟩=some (.int .i64 y1)/\w'.cell? ⟨gl,ol+k*6+2,none⟩=some (.int .i64 y2)/\w'.cell? ⟨gl,ol+k*6+3,none⟩=some (.int .i64 y3)/\w'.cell? ⟨gl,ol+k*6+4,none⟩=some (.int .i64 y4)/\w'.cell? ⟨gl,ol+k*6+5,none⟩=some (.int .i64 y5)) (first|assumption|go_keep) ((go_at_call 214;refine(ahead_any ⟨a0,a1,a2,a3,a4,a5⟩ ⟨y0,y1,y2,y3,y4,y5⟩ _).mono ?_;rintro e w2 ⟨rfl,hb2⟩;rw[hah];have hk9:=HK9.out w2 hb2))
    have hbl2:=HKB.out w2 hb2
    have HO2:=hiD (HOWN.out.grown hb2)
    have hsz2:B1<=w2.heap.size:=by have:=hbl2.size;have:=HB1.out;omega
    clear hb2 x0 x1 x2 x3 x4 x5 r0 r1 r2 r3 r4 r5 HK9
    obtain⟨q0,q1,q2,q3,q4,q5,p0,p1,p2,p3,p4,p5⟩:=hk9
    have HZ':Hid (plGo ⟨a0,a1,a2,a3,a4,a5⟩ (l.drop (k+1)) bb (out++[⟨y0,y1,y2,y3,y4,y5⟩])=PG):=by show _=_;have:=HZ.out;rw[if_neg (by rw[hah];simp)] at this;exact this
    go_wp2_with (at_builtin;refine wpList_appR 45 48 _ Tryz.underlying45 info107 rfl (by decide) coin6 coin_one (w2.alloc (.cells #[.int .i64 y0,.int .i64 y1,.int .i64 y2,.int .i64 y3,.int .i64 y4,.int .i64 y5] 107)) rfl _ _ rfl B1 w2.heap.size 1 u5 out ⟨y0,y1,y2,y3,y4,y5⟩ (by rfl) (by rfl) (HO2.out.alloc _) (vrow_new _ _ _) (by simp;omega) (by have:=HLN.out;unfold maxLen;omega) (by have:=HLN.out;omega) ?_;intro g' cap w5 hown5 hg5 _ _)
    go_roundw
    case rel=>exact⟨k+1,bb,out++[⟨y0,y1,y2,y3,y4,y5⟩],by omega,rfl,by go_num,HZ',by show _<=_;have:=HLK.out;simp only[List.length_append,List.length_cons,List.length_nil];omega,hown5,hbl2.trans (gb_to_below (gb_trans (gb_alloc _ _ _) hg5) hsz2 (fun r hr=>(HO2.out.blk r hr).1))⟩
    case measure=>simp[intOf];omega
   ·go_region_held3 (fun w'=>w'.cell? ⟨T,0,none⟩=some (.int .i64 a0)/\w'.cell? ⟨T,1,none⟩=some (.int .i64 a1)/\w'.cell? ⟨T,2,none⟩=some (.int .i64 a2)/\w'.cell? ⟨T,3,none⟩=some (.int .i64 a3)/\w'.cell? ⟨T,4,none⟩=some (.int .i64 a4)/\w'.cell? ⟨T,5,none⟩=some (.int .i64 a5)/\w'.cell? ⟨gl,ol+k*6,none⟩=some (.int .i64 y0)/\w'.cell? ⟨gl,ol+k*6+1,none⟩=some (.int .i64 y1)/\w'.cell? ⟨gl,ol+k*6+2,none⟩=some (.int .i64 y2)/\w'.cell? ⟨gl,ol+k*6+3,none⟩=some (.int .i64 y3)/\w'.cell? ⟨gl,ol+k*6+4,none⟩=some (.int .i64 y4)/\w'.cell? ⟨gl,ol+k*6+5,none⟩=some (.int .i64 y5)) (first|assumption|go_keep) ((go_at_call 214;refine(ahead_any ⟨a0,a1,a2,a3,a4,a5⟩ ⟨y0,y1,y2,y3,y4,y5⟩ _).mono ?_;rintro e w2 ⟨rfl,hb2⟩;rw[hah];have hk9:=HK9.out w2 hb2))
    have hbl2:=HKB.out w2 hb2
    have HO2:=hiD (HOWN.out.grown hb2)
    have hsz2:B1<=w2.heap.size:=by have:=hbl2.size;have:=HB1.out;omega
    clear hb2 x0 x1 x2 x3 x4 x5 r0 r1 r2 r3 r4 r5 HK9
    obtain⟨q0,q1,q2,q3,q4,q5,p0,p1,p2,p3,p4,p5⟩:=hk9
    cases bb
    ·have HZ':Hid (plGo ⟨a0,a1,a2,a3,a4,a5⟩ (l.drop (k+1)) true (out++[⟨a0,a1,a2,a3,a4,a5⟩]++[⟨y0,y1,y2,y3,y4,y5⟩])=PG):=by show _=_;have:=HZ.out;rw[if_pos ⟨hah,rfl⟩] at this;exact this
     go_upto_region 10 with (at_builtin;refine wpList_appR 45 48 _ Tryz.underlying45 info107 rfl (by decide) coin6 coin_one (w2.alloc (.cells #[.int .i64 a0,.int .i64 a1,.int .i64 a2,.int .i64 a3,.int .i64 a4,.int .i64 a5] 107)) rfl _ _ rfl B1 w2.heap.size 1 u5 out ⟨a0,a1,a2,a3,a4,a5⟩ (by rfl) (by rfl) (HO2.out.alloc _) (vrow_new _ _ _) (by simp;omega) (by have:=HLN.out;unfold maxLen;omega) (by have:=HLN.out;omega) ?_;intro g3 cap3 w3 hown3 hg3 _ _)
     have hbl3:Below B1 w1 w3:=hbl2.trans (gb_to_below (gb_trans (gb_alloc _ _ _) hg3) hsz2 (fun r hr=>(HO2.out.blk r hr).1))
     have HO3:=hiD hown3
     have hsz3:B1<=w3.heap.size:=by have:=hbl3.size;have:=HB1.out;omega
     clear hown3 q0 q1 q2 q3 q4 q5 p0 p1 p2 p3 p4 p5
     obtain⟨p0,p1,p2,p3,p4,p5⟩:=HROW.out w3 hbl3
     simp only at p0 p1 p2 p3 p4 p5
     go_wp2_with (at_builtin;refine wpList_appR 45 48 _ Tryz.underlying45 info107 rfl (by decide) coin6 coin_one (w3.alloc (.cells #[.int .i64 y0,.int .i64 y1,.int .i64 y2,.int .i64 y3,.int .i64 y4,.int .i64 y5] 107)) rfl _ _ rfl B1 w3.heap.size 1 (.slice (some ⟨g3,0,none⟩) (out.length+1) cap3) (out++[⟨a0,a1,a2,a3,a4,a5⟩]) ⟨y0,y1,y2,y3,y4,y5⟩ (by rfl) (by rfl) (HO3.out.alloc _) (vrow_new _ _ _) (by simp;omega) (by have:=HLN.out;simp only[List.length_append,List.length_cons,List.length_nil];unfold maxLen;omega) (by have:=HLN.out;simp only[List.length_append,List.length_cons,List.length_nil];omega) ?_;intro g' cap w5 hown5 hg5 _ _)
     go_roundw
     case rel=>exact⟨k+1,true,out++[⟨a0,a1,a2,a3,a4,a5⟩]++[⟨y0,y1,y2,y3,y4,y5⟩],by omega,rfl,by go_num,HZ',by show _<=_;have:=HLK.out;simp only[List.length_append,List.length_cons,List.length_nil];omega,(by rw[List.length_append] at hown5;exact hown5),hbl3.trans (gb_to_below (gb_trans (gb_alloc _ _ _) hg5) hsz3 (fun r hr=>(HO3.out.blk r hr).1))⟩
     case measure=>simp[intOf];omega
    ·have HZ':Hid (plGo ⟨a0,a1,a2,a3,a4,a5⟩ (l.drop (k+1)) true (out++[⟨y0,y1,y2,y3,y4,y5⟩])=PG):=by show _=_;have:=HZ.out;rw[if_neg (by simp)] at this;exact this
     go_wp2_with (at_builtin;refine wpList_appR 45 48 _ Tryz.underlying45 info107 rfl (by decide) coin6 coin_one (w2.alloc (.cells #[.int .i64 y0,.int .i64 y1,.int .i64 y2,.int .i64 y3,.int .i64 y4,.int .i64 y5] 107)) rfl _ _ rfl B1 w2.heap.size 1 u5 out ⟨y0,y1,y2,y3,y4,y5⟩ (by rfl) (by rfl) (HO2.out.alloc _) (vrow_new _ _ _) (by simp;omega) (by have:=HLN.out;unfold maxLen;omega) (by have:=HLN.out;omega) ?_;intro g' cap w5 hown5 hg5 _ _)
     go_roundw
     case rel=>exact⟨k+1,true,out++[⟨y0,y1,y2,y3,y4,y5⟩],by omega,rfl,by go_num,HZ',by show _<=_;have:=HLK.out;simp only[List.length_append,List.length_cons,List.length_nil];omega,hown5,hbl2.trans (gb_to_below (gb_trans (gb_alloc _ _ _) hg5) hsz2 (fun r hr=>(HO2.out.blk r hr).1))⟩
     case measure=>simp[intOf];omega
  ·have hkn:k=n:=by omega
   subst hkn
   have HZ:Hid ((out,bb)=PG):=by
    show _=_
    rw[<-hz.out,List.drop_of_length_le (by rw[HN.out];omega)]
    rfl
   have hbT:Below T w wr:=hb1.trans (hbl.mono (by omega))
   have HLN:=hiD hlen.out
   cases bb
   ·have HR:Hid (placedR l ⟨a0,a1,a2,a3,a4,a5⟩=out++[⟨a0,a1,a2,a3,a4,a5⟩]):=by show _=_;rw[HPL.out,<-HZ.out,if_pos rfl]
    go_wp2_with (at_builtin;refine wpList_appR 45 48 _ Tryz.underlying45 info107 rfl (by decide) coin6 coin_one (wr.alloc (.cells #[.int .i64 a0,.int .i64 a1,.int .i64 a2,.int .i64 a3,.int .i64 a4,.int .i64 a5] 107)) rfl _ _ rfl B1 wr.heap.size 1 u5 out ⟨a0,a1,a2,a3,a4,a5⟩ (by rfl) (by rfl) (hown.alloc _) (vrow_new _ _ _) (by simp;omega) (by have:=HLN.out;unfold maxLen;omega) (by have:=HLN.out;omega) ?_;intro g' cap w5 hown5 hg5 _ _)
    go_ret
    rw[HTe.out,HR.out]
    exact⟨_,rfl,owns_lowerN hown5 (by omega),hbT.trans (gb_to_below (gb_trans (gb_alloc _ _ _) hg5) (by omega) (fun r hr=>by have:=(hown.blk r hr).1;omega))⟩
   ·have HR:Hid (placedR l ⟨a0,a1,a2,a3,a4,a5⟩=out):=by show _=_;rw[HPL.out,<-HZ.out,if_neg (by simp)]
    go_wp2
    go_ret
    rw[HTe.out,HR.out]
    exact⟨_,rfl,owns_lowerN hown (by omega),hbT⟩
def ownK (t0 t1:List Int) (n0 n1:Nat) (x:RCel):Option CoinD:=
 if 0<=indexR t0 n0 x.ad then some ⟨x.id,x.pos,x.ad,x.val,0,indexR t0 n0 x.ad⟩
 else if 0<=indexR t1 n1 x.ad then some ⟨x.id,x.pos,x.ad,x.val,1,indexR t1 n1 x.ad⟩ else none
def ownRS (t0 t1:List Int) (n0 n1:Nat) (acc:List CoinD) (x:RCel):List CoinD:=if x.sp=true then acc else match ownK t0 t1 n0 n1 x with
 |none=>acc
 |some c=>placedR acc c
def ownR (l:List RCel) (t0 t1:List Int) (n0 n1:Nat):List CoinD:=l.foldl (ownRS t0 t1 n0 n1) []
theorem plGo_len (c:CoinD):∀ (l:List CoinD) (b:Bool) (out:List CoinD),(plGo c l b out).1.length+(if (plGo c l b out).2=true then 0 else 1)=out.length+l.length+(if b=true then 0 else 1):=by
 intro l
 induction l with
 |nil=>intro b out;cases b<;>simp[plGo]
 |cons x r ih=>
  intro b out
  rw[plGo]
  by_cases h:aheadZ c x=true/\b=false
  ·rw[if_pos h,ih,h.2]
   simp
   omega
  ·rw[if_neg h,ih]
   simp
   omega
theorem placedR_len (l:List CoinD) (c:CoinD):(placedR l c).length=l.length+1:=by
 have:=plGo_len c l false []
 unfold placedR
 cases hb:(plGo c l false []).2
 ·rw[hb] at this
  simp at this ⊢
  omega
 ·rw[hb] at this
  simp at this ⊢
  omega
theorem ownRS_len (t0 t1:List Int) (n0 n1:Nat) (acc:List CoinD) (x:RCel):(ownRS t0 t1 n0 n1 acc x).length<=acc.length+1:=by
 unfold ownRS
 split
 ·omega
 ·split
  ·omega
  ·rw[placedR_len];omega
theorem wfind_le (bs:List Bool) (g:Nat):∀ (f x:Nat),f+x<=100->wfind bs g f x<=100:=by
 intro f
 induction f with
 |zero=>intro x _;exact leR
 |succ f ih=>
  intro x hx
  rw[wfind]
  split
  ·omega
  ·exact ih (x+1) (by omega)
theorem winR_le (l:List RCel) (s:Int) (g:Nat) (br:Int) (hg:g<=100):winR l s g br<=100:=wfind_le _ _ _ _ (by omega)
theorem rCoins_any (N:NPr) (D:Nat) (ao:OAd) (c:Nat) (bls:List (List TxD)) (s:Int) (g:Nat) (ar:OAd) (cr:Nat) (ac:OAd) (cc:Nat) (w:World) (hx:DCh N w D ao c bls) (hg:Good bls) (hm:bls.length<=40) (ha:DAd w D s g ar cr ac cc) (g1:g<=20):
 Calls Tryz.prog 122 #[.pointer (some ⟨D,0,none⟩)] w fun e w'=>∃ v,e=.returned v/\OwnN w' w.heap.size v (ownR (cellsR bls) (adrs s 0 100) (adrs s 1 100) (winR (cellsR bls) s g 0) (winR (cellsR bls) s g 1))/\Below w.heap.size w w':=by
 obtain⟨cs,hch⟩:=hx.ch
 have c4:=hx.c4
 have HC:=hiD hch
 have HG:=hiD hg
 have HA:=hiD ha
 have HW0:Hid (winR (cellsR bls) s g 0=wfind (hitsR (cellsR bls) (adrs s 0 100)) g (100-g) g):=rfl
 have HW1:Hid (winR (cellsR bls) s g 1=wfind (hitsR (cellsR bls) (adrs s 1 100)) g (100-g) g):=rfl
 have hll:=cellsR_len hg
 have hDl:D<w.heap.size:=cell_lt c4
 clear hx hch hg ha
 generalize hnl:bls.length=n at *
 have HN:=hiD hnl
 clear hnl
 go_enter Tryz.func122,Tryz.ntmps122
 go_wp2_with fail
 refine(cells_any N ao n c cs bls _ HC HN (by omega) (fun i hi=>HG.out.small i (by rw[HN.out];exact hi))).mono ?_
 rintro e w1 ⟨v1,rfl,hown1,hb1⟩
 obtain⟨al,cl,rfl,hat⟩:=OwnRec.at rc5 hown1
 have HAT:=hiD hat
 have HA1:=hiD (HA.out.grown hb1)
 clear hat hown1 c4 HC HG
 generalize hle:cellsR bls=l at *
 have HLE:=hiD hle
 clear hle
 have d2:=HA1.out.c2
 generalize hml:l.length=m at *
 have HM:=hiD hml
 clear hml
 go_wp2_with fail
 refine(seen_any ar 100 cr (adrs s 0 100) al m cl l _ HA1.out.i0 (adrs_len _ _ _) HAT HM (by omega) (by omega)).mono ?_
 rintro e w2 ⟨ah,ch,rfl,hh2,hb2⟩
 have hbx:Below w2.heap.size w2 (w2.alloc (.cells #[.slice ar 100 cr,.slice ah 100 ch] 236)):=(Below.refl _ _).alloc leR _
 have y0:(w2.alloc (.cells #[.slice ar 100 cr,.slice ah 100 ch] 236)).cell? ⟨w2.heap.size,0,none⟩=some (.slice ar 100 cr):=by rw[World.cell?_alloc_new];rfl
 have y1:(w2.alloc (.cells #[.slice ar 100 cr,.slice ah 100 ch] 236)).cell? ⟨w2.heap.size,1,none⟩=some (.slice ah 100 ch):=by rw[World.cell?_alloc_new];rfl
 have hb12:Below w1.heap.size w1 (w2.alloc (.cells #[.slice ar 100 cr,.slice ah 100 ch] 236)):=below_blk hb2 hbx
 have HA2:=hiD (HA1.out.grown hb12)
 have HAT2:=hiD (HAT.out.grown hb12)
 have HH2:=hiD (hh2.grown hbx)
 have hb02:=below_blk hb1 hb12
 have d3:=HA2.out.c3
 have d3':w2.cell? ⟨D,3,none⟩=some (.slice ac 100 cc):=(HA1.out.grown hb2).c3
 have hD2:D<w2.heap.size:=cell_lt d3'
 clear hh2 hb1 hb2 hb12 hbx HA1 HAT d2
 go_wp2_with fail
 generalize w2.alloc (.cells #[.slice ar 100 cr,.slice ah 100 ch] 236)=w3 at *
 generalize w2.heap.size=T5 at *
 refine(seen_any ac 100 cc (adrs s 1 100) al m cl l _ HA2.out.i1 (adrs_len _ _ _) HAT2 HM (by omega) (by omega)).mono ?_
 rintro e w4 ⟨ai,ci,rfl,hh4,hb4⟩
 have hbx:Below w4.heap.size w4 (w4.alloc (.cells #[.slice ac 100 cc,.slice ai 100 ci] 236)):=(Below.refl _ _).alloc leR _
 have z0:(w4.alloc (.cells #[.slice ac 100 cc,.slice ai 100 ci] 236)).cell? ⟨w4.heap.size,0,none⟩=some (.slice ac 100 cc):=by rw[World.cell?_alloc_new];rfl
 have z1:(w4.alloc (.cells #[.slice ac 100 cc,.slice ai 100 ci] 236)).cell? ⟨w4.heap.size,1,none⟩=some (.slice ai 100 ci):=by rw[World.cell?_alloc_new];rfl
 have hb34:Below w3.heap.size w3 (w4.alloc (.cells #[.slice ac 100 cc,.slice ai 100 ci] 236)):=below_blk hb4 hbx
 have HA4:=hiD (HA2.out.grown hb34)
 have HH24:=hiD (HH2.out.grown hb34)
 have HH4:=hiD (hh4.grown hbx)
 have y0':=(hb34.cell (p:=⟨T5,0,none⟩) (cell_lt y0)).trans y0
 have y1':=(hb34.cell (p:=⟨T5,1,none⟩) (cell_lt y1)).trans y1
 have hb04:=below_blk hb02 hb34
 have d1:=HA4.out.c1
 have HL4:=hiD (HAT2.out.grown hb34)
 clear hh4 hb4 hb34 hbx HA2 HAT2 HH2 y0 y1 d3 d3' hb02
 go_upto_region 4 with fail
 generalize w4.alloc (.cells #[.slice ac 100 cc,.slice ai 100 ci] 236)=w5 at *
 generalize w4.heap.size=T6 at *
 have HHd:Hid (RecAt bV w5.drew ah (hitsR l (adrs s 0 100))):=RecAt.heap HH24.out rfl
 have HKB:Hid (∀ w6,Below w5.drew.heap.size w5.drew w6->w6.cell? ⟨T5,0,none⟩=some (.slice ar 100 cr)/\w6.cell? ⟨T5,1,none⟩=some (.slice ah 100 ch)/\w6.cell? ⟨D,1,none⟩=some (.int .i64 (g:Int))):=fun w6 hb=>keep3 (w2:=w5.drew) hb y0' y1' d1
 go_wp2
 go_region_held3 (fun w'=>w'.cell? ⟨T5,0,none⟩=some (.slice ar 100 cr)/\w'.cell? ⟨T5,1,none⟩=some (.slice ah 100 ch)/\w'.cell? ⟨D,1,none⟩=some (.int .i64 (g:Int))) (first|assumption|go_keep) ((go_at_call 180;refine(rwindow_any ar 100 cr ah ch (hitsR l (adrs s 0 100)) g _ HHd (by rw[hits_len,adrs_len]) (by omega)).mono ?_;rintro e w6 ⟨rfl,hb6⟩;have hk6:=HKB.out w6 hb6))
 rw[<-HW0.out]
 have hb5d:Below w5.heap.size w5 w6:=((Below.refl w5.heap.size w5).drew).trans hb6
 have HH6:Hid (RecAt bV w6.drew ai (hitsR l (adrs s 1 100))):=RecAt.heap (HH4.out.grown hb5d) rfl
 have z0':=(hb5d.cell (p:=⟨T6,0,none⟩) (cell_lt z0)).trans z0
 have z1':=(hb5d.cell (p:=⟨T6,1,none⟩) (cell_lt z1)).trans z1
 have d1':=hk6.2.2
 have hb06:=below_blk hb04 hb5d
 have HKB2:Hid (∀ w7,Below w6.drew.heap.size w6.drew w7->w7.cell? ⟨T6,0,none⟩=some (.slice ac 100 cc)/\w7.cell? ⟨T6,1,none⟩=some (.slice ai 100 ci)/\w7.cell? ⟨D,1,none⟩=some (.int .i64 (g:Int))):=fun w7 hb=>keep3 (w2:=w6.drew) hb z0' z1' d1'
 have HL6:=hiD (HL4.out.grown hb5d)
 have HA6:=hiD (HA4.out.grown hb5d)
 have hy6:=hk6
 clear hk6 hb6 HKB HHd HH24 HH4 HA4 z0 z1 y0' y1' d1 hb5d hb04 HL4
 go_wp2
 go_region_held3 (fun w'=>w'.cell? ⟨T6,0,none⟩=some (.slice ac 100 cc)/\w'.cell? ⟨T6,1,none⟩=some (.slice ai 100 ci)/\w'.cell? ⟨D,1,none⟩=some (.int .i64 (g:Int))) (first|assumption|go_keep) ((go_at_call 180;refine(rwindow_any ac 100 cc ai ci (hitsR l (adrs s 1 100)) g _ HH6 (by rw[hits_len,adrs_len]) (by omega)).mono ?_;rintro e w7 ⟨rfl,hb7⟩;have hk7:=HKB2.out w7 hb7))
 rw[<-HW1.out]
 have hb07:=below_blk hb06 (((Below.refl w6.heap.size w6).drew).trans hb7)
 have hb67:Below w6.heap.size w6 w7:=((Below.refl w6.heap.size w6).drew).trans hb7
 have HL7:=hiD (HL6.out.grown hb67)
 have HA7:=hiD (HA6.out.grown hb67)
 have Y0:Hid (w7.cell? ⟨T5,0,none⟩=some (.slice ar 100 cr)):=(hb67.cell (p:=⟨T5,0,none⟩) (cell_lt hy6.1)).trans hy6.1
 have Y1:Hid (w7.cell? ⟨T5,1,none⟩=some (.slice ah 100 ch)):=(hb67.cell (p:=⟨T5,1,none⟩) (cell_lt hy6.2.1)).trans hy6.2.1
 have Z0:=hiD hk7.1
 have Z1:=hiD hk7.2.1
 have HB07:=hiD hb07
 have hT5:T5<w7.heap.size:=cell_lt Y0.out
 have hT6:T6<w7.heap.size:=cell_lt Z0.out
 clear hk7 hb7 hb67 hy6 z0' z1' d1' hb06 hb07 HL6 HA6 HH6 HKB2
 have hn0:winR l s g 0<=100:=winR_le _ _ _ _ (by omega)
 have hn1:winR l s g 1<=100:=winR_le _ _ _ _ (by omega)
 generalize hn0e:winR l s g 0=n0 at *
 have HN0:=hiD hn0e
 generalize hn1e:winR l s g 1=n1 at *
 have HN1:=hiD hn1e
 clear hn0e hn1e
 generalize hB7:w7.heap.size=B7 at *
 have HB7:=hiD hB7
 clear hB7
 go_wp2
 go_loopw [8,9] (fun v i wr=>∃ (k:Nat) (out:List CoinD),k<=m/\i=.int .i64 k/\Hid (out=(l.take k).foldl (ownRS (adrs s 0 100) (adrs s 1 100) n0 n1) [])/\Hid (out.length<=k)/\OwnN wr B7 v out/\Below B7 w7 wr) (fun _ i _=>m-(intOf i).toNat)
 case atStart=>exact⟨0,[],Nat.zero_le _,rfl,rfl,leR,OwnRec.nil _ _ _ _ _,Below.refl _ _⟩
 case round=>
  obtain⟨k,out,hk,rfl,hout,hlen,hown,hbl⟩:=hrel
  have hsz:=hbl.size
  rw[HB7.out] at hsz
  by_cases hlt:k<m
  ·rcases HL7.out with hnil|⟨gl,ol,rfl,hrow⟩
   ·have h1:=HM.out;rw[hnil] at h1;simp at h1;omega
   obtain⟨c0,c1,c2,c3,c4⟩:=rcCells (hrow.grown (by rw[HB7.out];exact hbl)) k (by rw[HM.out];exact hlt)
   have HS:Hid ((l.take (k+1)).foldl (ownRS (adrs s 0 100) (adrs s 1 100) n0 n1) []=ownRS (adrs s 0 100) (adrs s 1 100) n0 n1 out (l.getD k dR)):=by show _=_;rw[foldl_take _ _ l dR k (by rw[HM.out];exact hlt),hout.out]
   have HLN:Hid ((ownRS (adrs s 0 100) (adrs s 1 100) n0 n1 out (l.getD k dR)).length<=k+1):=by show _<=_;have:=ownRS_len (adrs s 0 100) (adrs s 1 100) n0 n1 out (l.getD k dR);have:=hlen.out;omega
   have hgl:gl<wr.heap.size:=cell_lt c0
   clear hrow
   generalize l.getD k dR=y at c0 c1 c2 c3 c4 HS HLN
   obtain⟨y0,y1,y2,y3,ysp⟩:=y
   simp only at c0 c1 c2 c3 c4
   have e1:(0:Int)<=(k:Int):=by omega
   have e2:(k:Int)<(m:Int):=by omega
   cases ysp
   ·go_wp2
    go_region_held3 (fun w'=>w'.cell? ⟨gl,ol+k*5,none⟩=some (.int .i64 y0)/\w'.cell? ⟨gl,ol+k*5+1,none⟩=some (.int .i64 y1)/\w'.cell? ⟨gl,ol+k*5+2,none⟩=some (.int .i64 y2)/\w'.cell? ⟨gl,ol+k*5+3,none⟩=some (.int .i64 y3)) (first|assumption|go_keep) (fail)
    have hbx:Below wr.heap.size wr ((wr.alloc (.cells #[.int .i64 y0,.int .i64 y1,.int .i64 y2,.int .i64 y3,.int .i64 0,.int .i64 0] 107)).drew):=(bAl _ _).drew
    have hvb0:=VB.new wr (.int .i64 y0) (.int .i64 y1) (.int .i64 y2) (.int .i64 y3) (.int .i64 0) (.int .i64 0) 107
    have hvb:VB ((wr.alloc (.cells #[.int .i64 y0,.int .i64 y1,.int .i64 y2,.int .i64 y3,.int .i64 0,.int .i64 0] 107)).drew) wr.heap.size (.int .i64 y0) (.int .i64 y1) (.int .i64 y2) (.int .i64 y3) (.int .i64 0) (.int .i64 0):=⟨hvb0.c0,hvb0.c1,hvb0.c2,hvb0.c3,hvb0.c4,hvb0.c5,hvb0.fz⟩
    have HNX:Hid (∀ q,u8.ownBlock=some q->q≠wr.heap.size):=fun q hq e=>by have:=(hown.blk q hq).2;omega
    have HOW8:Hid (OwnN ((wr.alloc (.cells #[.int .i64 y0,.int .i64 y1,.int .i64 y2,.int .i64 y3,.int .i64 0,.int .i64 0] 107)).drew) B7 u8 out):=hown.grown hbx
    have hbl8:=hbl.trans (hbx.mono hsz)
    clear hvb0 hbx hown hbl c0 c1 c2 c3 c4 hgl
    generalize (wr.alloc (.cells #[.int .i64 y0,.int .i64 y1,.int .i64 y2,.int .i64 y3,.int .i64 0,.int .i64 0] 107)).drew=w8 at *
    generalize wr.heap.size=X at *
    have HVB8:=hiD hvb
    clear hvb
    have hXl:X<w8.heap.size:=cell_lt HVB8.out.c0
    have hX7:B7<=X:=hsz
    have v2:=HVB8.out.c2
    have p0:=(hbl8.cell (p:=⟨T5,0,none⟩) hT5).trans Y0.out
    have p1:=(hbl8.cell (p:=⟨T5,1,none⟩) hT5).trans Y1.out
    have HI8:Hid (IntsAt w8 ar (adrs s 0 100)):=HA7.out.i0.grown (by rw[HB7.out];exact hbl8)
    have hsz8:B7<=w8.heap.size:=by omega
    go_wp2_with fail
    refine(index_any ar 100 cr (.slice ah 100 ch) (adrs s 0 100) n0 y2 _ HI8 (adrs_len _ _ _) hn0 (by omega)).mono ?_
    rintro e w9 ⟨rfl,hb9⟩
    have HVB9:=hiD (HVB8.out.grown hb9)
    have HOW9:=hiD (HOW8.out.grown hb9)
    have hbl9:=hbl8.trans (hb9.mono hsz8)
    have hsz9:=hb9.size
    clear v2 p0 p1 HVB8 HOW8 HI8 hbl8 hb9
    have HOS:Hid (∀ (wq:World) (j:Nat) (u:Value),OwnN wq B7 u8 out->OwnN (wq.setCell ⟨X,j,none⟩ u) B7 u8 out):=fun wq j u hq=>OwnRec.gb (gb_set wq X j u) hq (fun q hq2 e=>by injection e with e;exact HNX q hq2 e)
    have v5:=HVB9.out.c5
    have vf:=HVB9.out.fz 5
    have HLO:Hid (out.length<=100000):=by show _<=_;have:=hlen.out;omega
    have HIX:Hid (indexR (adrs s 0 100) n0 y2=-1\/∃ j:Nat,indexR (adrs s 0 100) n0 y2=(j:Int)/\j<100):=by
     rcases idxOf_cases (fun x:Int=>x== y2) 0 ((adrs s 0 100).take n0) 0 with h|⟨j,h1,h2,_⟩
     ·exact Or.inl h
     ·rw[List.length_take] at h1
      exact Or.inr ⟨j,by unfold indexR;rw[h2];simp,by omega⟩
    have HIY:Hid (indexR (adrs s 1 100) n1 y2=-1\/∃ j:Nat,indexR (adrs s 1 100) n1 y2=(j:Int)/\j<100):=by
     rcases idxOf_cases (fun x:Int=>x== y2) 0 ((adrs s 1 100).take n1) 0 with h|⟨j,h1,h2,_⟩
     ·exact Or.inl h
     ·rw[List.length_take] at h1
      exact Or.inr ⟨j,by unfold indexR;rw[h2];simp,by omega⟩
    have HKK:Hid (ownK (adrs s 0 100) (adrs s 1 100) n0 n1 ⟨y0,y1,y2,y3,false⟩=if 0<=indexR (adrs s 0 100) n0 y2 then some ⟨y0,y1,y2,y3,0,indexR (adrs s 0 100) n0 y2⟩ else if 0<=indexR (adrs s 1 100) n1 y2 then some ⟨y0,y1,y2,y3,1,indexR (adrs s 1 100) n1 y2⟩ else none):=rfl
    have HSS:Hid (ownRS (adrs s 0 100) (adrs s 1 100) n0 n1 out ⟨y0,y1,y2,y3,false⟩=match ownK (adrs s 0 100) (adrs s 1 100) n0 n1 ⟨y0,y1,y2,y3,false⟩ with|none=>out|some c=>placedR out c):=rfl
    generalize indexR (adrs s 0 100) n0 y2=i0 at *
    generalize hi1:indexR (adrs s 1 100) n1 y2=i1 at *
    have HI1E:=hiD hi1
    clear hi1
    rcases HIX.out with rfl|⟨j0,rfl,hj0⟩
    ·have HV10:Hid (VB ((w9.setCell ⟨X,5,none⟩ (.int .i64 (-1))).setCell ⟨X,4,none⟩ (.int .i64 1)) X (.int .i64 y0) (.int .i64 y1) (.int .i64 y2) (.int .i64 y3) (.int .i64 1) (.int .i64 (-1))):=(HVB9.out.s5 _).s4 _
     have HO10:Hid (OwnN ((w9.setCell ⟨X,5,none⟩ (.int .i64 (-1))).setCell ⟨X,4,none⟩ (.int .i64 1)) B7 u8 out):=HOS.out _ _ _ (HOS.out _ _ _ HOW9.out)
     have hbl10:Below B7 w7 ((w9.setCell ⟨X,5,none⟩ (.int .i64 (-1))).setCell ⟨X,4,none⟩ (.int .i64 1)):=(hbl9.setCell hX7 _).setCell hX7 _
     have hz10:((w9.setCell ⟨X,5,none⟩ (.int .i64 (-1))).setCell ⟨X,4,none⟩ (.int .i64 1)).heap.size=w9.heap.size:=by simp
     have v4:=HVB9.out.c4
     have vf4:=HVB9.out.fz 4
     go_upto_region 15 with fail
     generalize (w9.setCell ⟨X,5,none⟩ (.int .i64 (-1))).setCell ⟨X,4,none⟩ (.int .i64 1)=w10 at *
     clear v5 vf v4 vf4 HOW9 HVB9 hbl9
     have v2:=HV10.out.c2
     have p0:=(hbl10.cell (p:=⟨T6,0,none⟩) hT6).trans Z0.out
     have p1:=(hbl10.cell (p:=⟨T6,1,none⟩) hT6).trans Z1.out
     have HI10:Hid (IntsAt w10 ac (adrs s 1 100)):=HA7.out.i1.grown (by rw[HB7.out];exact hbl10)
     go_wp2_with fail
     refine(index_any ac 100 cc (.slice ai 100 ci) (adrs s 1 100) n1 y2 _ HI10 (adrs_len _ _ _) hn1 (by omega)).mono ?_
     rintro e w11 ⟨rfl,hb11⟩
     rw[HI1E.out]
     have HVB11:=hiD (HV10.out.grown hb11)
     have HOW11:=hiD (HO10.out.grown hb11)
     have hbl11:=hbl10.trans (hb11.mono (by omega))
     have hsz11:=hb11.size
     have v5:=HVB11.out.c5
     have vf:=HVB11.out.fz 5
     clear v2 p0 p1 HV10 HO10 HI10 hbl10 hb11
     rcases HIY.out with rfl|⟨j1,rfl,hj1⟩
     ·have HRS:Hid (ownRS (adrs s 0 100) (adrs s 1 100) n0 n1 out ⟨y0,y1,y2,y3,false⟩=out):=by show _=_;rw[HSS.out,HKK.out,if_neg (by omega),if_neg (by omega)]
      have HE2:Hid (out=(l.take (k+1)).foldl (ownRS (adrs s 0 100) (adrs s 1 100) n0 n1) []):=by show _=_;rw[HS.out,HRS.out]
      have HL2:Hid (out.length<=k+1):=by show _<=_;have:=hlen.out;omega
      go_wp2
      go_roundw
      case rel=>exact⟨k+1,out,by omega,by go_num,HE2,HL2,HOS _ _ _ HOW11,hbl11.setCell hX7 _⟩
      case measure=>simp[intOf];omega
     ·have HRS:Hid (ownRS (adrs s 0 100) (adrs s 1 100) n0 n1 out ⟨y0,y1,y2,y3,false⟩=placedR out ⟨y0,y1,y2,y3,1,(j1:Int)⟩):=by show _=_;rw[HSS.out,HKK.out,if_neg (by omega),if_pos (by omega)]
      have HV12:Hid (VB (w11.setCell ⟨X,5,none⟩ (.int .i64 (j1:Int))) X (.int .i64 y0) (.int .i64 y1) (.int .i64 y2) (.int .i64 y3) (.int .i64 1) (.int .i64 (j1:Int))):=HVB11.out.s5 _
      have HO12:Hid (OwnN (w11.setCell ⟨X,5,none⟩ (.int .i64 (j1:Int))) B7 u8 out):=HOS.out _ _ _ HOW11.out
      have hbl12:Below B7 w7 (w11.setCell ⟨X,5,none⟩ (.int .i64 (j1:Int))):=hbl11.setCell hX7 _
      have hz12:(w11.setCell ⟨X,5,none⟩ (.int .i64 (j1:Int))).heap.size=w11.heap.size:=by simp
      have d1:decide ((j1:Int)<0)=false:=by rw[decide_eq_false_iff_not];omega
      have d2:decide ((0:Int)<=(j1:Int))=true:=by rw[decide_eq_true_iff];omega
      go_upto_region 16 with fail
      generalize w11.setCell ⟨X,5,none⟩ (.int .i64 (j1:Int))=w12 at *
      clear v5 vf HOW11 HVB11 hbl11
      obtain⟨v0,v1,v2,v3,v4,v5,_⟩:=HV12.out
      obtain⟨av,cv,rfl,hat⟩:=OwnRec.at coin6 HO12.out
      have HAT:=hiD hat
      clear hat
      go_wp2_with fail
      refine(placed_any av out.length cv out ⟨y0,y1,y2,y3,1,(j1:Int)⟩ _ HAT rfl (by have:=HLO.out;omega)).mono ?_
      rintro e w13 ⟨v',rfl,hown13,hb13⟩
      have HO13:Hid (OwnN w13 B7 v' ((l.take (k+1)).foldl (ownRS (adrs s 0 100) (adrs s 1 100) n0 n1) [])):=by show OwnRec _ _ _ _ _ _ _;rw[HS.out,HRS.out];exact owns_lowerN hown13 (by omega)
      have hbl13:=hbl12.trans (hb13.mono (by omega))
      rw[<-HS.out] at HLN
      clear hown13 hb13
      generalize ho2:(l.take (k+1)).foldl (ownRS (adrs s 0 100) (adrs s 1 100) n0 n1) []=out2 at *
      have HE2:=hiD ho2.symm
      clear ho2
      go_wp2
      go_roundw
      case rel=>exact⟨k+1,out2,by omega,by go_num,HE2,HLN,HO13,hbl13⟩
      case measure=>simp[intOf];omega
    ·have HRS:Hid (ownRS (adrs s 0 100) (adrs s 1 100) n0 n1 out ⟨y0,y1,y2,y3,false⟩=placedR out ⟨y0,y1,y2,y3,0,(j0:Int)⟩):=by show _=_;rw[HSS.out,HKK.out,if_pos (by omega)]
     have HV10:Hid (VB (w9.setCell ⟨X,5,none⟩ (.int .i64 (j0:Int))) X (.int .i64 y0) (.int .i64 y1) (.int .i64 y2) (.int .i64 y3) (.int .i64 0) (.int .i64 (j0:Int))):=HVB9.out.s5 _
     have HO10:Hid (OwnN (w9.setCell ⟨X,5,none⟩ (.int .i64 (j0:Int))) B7 u8 out):=HOS.out _ _ _ HOW9.out
     have hbl10:Below B7 w7 (w9.setCell ⟨X,5,none⟩ (.int .i64 (j0:Int))):=hbl9.setCell hX7 _
     have hz10:(w9.setCell ⟨X,5,none⟩ (.int .i64 (j0:Int))).heap.size=w9.heap.size:=by simp
     have d1:decide ((j0:Int)<0)=false:=by rw[decide_eq_false_iff_not];omega
     have d2:decide ((0:Int)<=(j0:Int))=true:=by rw[decide_eq_true_iff];omega
     go_upto_region 13 with fail
     generalize w9.setCell ⟨X,5,none⟩ (.int .i64 (j0:Int))=w10 at *
     clear v5 vf HOW9 HVB9 hbl9
     obtain⟨v0,v1,v2,v3,v4,v5,_⟩:=HV10.out
     obtain⟨av,cv,rfl,hat⟩:=OwnRec.at coin6 HO10.out
     have HAT:=hiD hat
     clear hat
     go_wp2_with fail
     refine(placed_any av out.length cv out ⟨y0,y1,y2,y3,0,(j0:Int)⟩ _ HAT rfl (by have:=HLO.out;omega)).mono ?_
     rintro e w11 ⟨v',rfl,hown11,hb11⟩
     have HO11:Hid (OwnN w11 B7 v' ((l.take (k+1)).foldl (ownRS (adrs s 0 100) (adrs s 1 100) n0 n1) [])):=by show OwnRec _ _ _ _ _ _ _;rw[HS.out,HRS.out];exact owns_lowerN hown11 (by omega)
     have hbl11:=hbl10.trans (hb11.mono (by omega))
     rw[<-HS.out] at HLN
     clear hown11 hb11
     generalize ho2:(l.take (k+1)).foldl (ownRS (adrs s 0 100) (adrs s 1 100) n0 n1) []=out2 at *
     have HE2:=hiD ho2.symm
     clear ho2
     go_wp2
     go_roundw
     case rel=>exact⟨k+1,out2,by omega,by go_num,HE2,HLN,HO11,hbl11⟩
     case measure=>simp[intOf];omega
   ·have HR:Hid (out=(l.take (k+1)).foldl (ownRS (adrs s 0 100) (adrs s 1 100) n0 n1) []):=by show _=_;rw[HS.out];rfl
    have HLO:Hid (out.length<=k+1):=by show _<=_;have:=hlen.out;omega
    go_wp2
    go_roundw
    case rel=>exact⟨k+1,out,by omega,by go_num,HR,HLO,hown,hbl⟩
    case measure=>simp[intOf];omega
  ·have HE:Hid (out=ownR l (adrs s 0 100) (adrs s 1 100) n0 n1):=by show _=_;rw[hout.out,List.take_of_length_le (by rw[HM.out];omega)];rfl
   have hbz:w.heap.size<=B7:=by have:=HB07.out.size;have:=HB7.out;omega
   go_wp2
   go_ret
   rw[HLE.out,HN0.out,HN1.out,<-HE.out]
   exact⟨_,rfl,owns_lowerN hown hbz,HB07.out.trans (hbl.mono hbz)⟩
end
end Go.Proofs.YtffgpepngcnjeabGreat
