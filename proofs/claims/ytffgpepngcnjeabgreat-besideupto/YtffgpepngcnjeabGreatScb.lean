import Derived.Test.YtffgpepngcnjeabGreatSca
namespace Go.Proofs.YtffgpepngcnjeabGreat
set_option maxRecDepth 100000
set_option maxHeartbeats 8000000
section
open Go.RowKit

theorem beside_no (s g s2 g2:Int) (v:Value) (w:World) (hf:fitZ s g=false\/fitZ s2 g2=false):
 Calls Tryz.prog 6 #[.int .i64 s,.int .i64 g,.int .i64 s2,.int .i64 g2,v] w fun e w'=>e=.returned (.bool true)/\Below w.heap.size w w':=by
 cases h1:fitZ s g
 ·cases h2:fitZ s2 g2
  ·go_enter Tryz.func6,Tryz.ntmps6
   go_wp2_with fail
   refine(begin_no s g _ h1).mono ?_
   rintro e w1 ⟨rfl,hb1⟩
   go_wp2_with fail
   refine(begin_no s2 g2 _ h2).mono ?_
   rintro e w2 ⟨rfl,hb2⟩
   have hb:=below_blk hb1 hb2
   go_wp2
   go_ret
   exact⟨rfl,hb⟩
  ·obtain⟨x1,x2,x3⟩:=fitZ_yes h2
   obtain⟨k,rfl⟩:∃ k:Nat,g2=(k:Int):=⟨g2.toNat,by omega⟩
   go_enter Tryz.func6,Tryz.ntmps6
   go_wp2_with fail
   refine(begin_no s g _ h1).mono ?_
   rintro e w1 ⟨rfl,hb1⟩
   go_wp2_with fail
   refine(begin_yes s2 k _ h2).mono ?_
   rintro e w2 ⟨G2,D2,Dr2,vr2,vc2,rfl,_,hb2⟩
   have hb:=below_blk hb1 hb2
   go_wp2
   go_ret
   exact⟨rfl,hb⟩
 ·obtain h2:fitZ s2 g2=false:=hf.resolve_left (by rw[h1];simp)
  obtain⟨x1,x2,x3⟩:=fitZ_yes h1
  obtain⟨k,rfl⟩:∃ k:Nat,g=(k:Int):=⟨g.toNat,by omega⟩
  go_enter Tryz.func6,Tryz.ntmps6
  go_wp2_with fail
  refine(begin_yes s k _ h1).mono ?_
  rintro e w1 ⟨G2,D2,Dr2,vr2,vc2,rfl,_,hb1⟩
  go_wp2_with fail
  refine(begin_no s2 g2 _ h2).mono ?_
  rintro e w2 ⟨rfl,hb2⟩
  have hb:=below_blk hb1 hb2
  go_wp2
  go_ret
  exact⟨rfl,hb⟩
theorem beside_yes (s:Int) (g:Nat) (s2:Int) (g2:Nat) (hf:fitZ s (g:Int)=true) (hf2:fitZ s2 (g2:Int)=true) (so:OAd) (n c:Nat) (ops:List OpD) (w:World) (hs:Scr w.heap.size w so ops) (hn:ops.length=n) (hm:n<=1048576):
 Calls Tryz.prog 6 #[.int .i64 s,.int .i64 (g:Int),.int .i64 s2,.int .i64 (g2:Int),.slice so n c] w fun e w'=>e=.returned (.bool true)/\Below w.heap.size w w':=by
 have HS:=hiD hs
 have HN:=hiD hn
 have HF:=hiD hf
 have HF2:=hiD hf2
 clear hs hn hf hf2
 go_enter Tryz.func6,Tryz.ntmps6
 go_wp2_with fail
 refine(begin_yes s g _ HF).mono ?_
 rintro e w1 ⟨G,D,Dr,vr,vc,rfl,h0,hb1⟩
 have H0:=hiD h0
 have HB1:=hiD hb1
 clear h0 hb1
 go_wp2_with fail
 refine(begin_yes s2 g2 _ HF2).mono ?_
 rintro e w2 ⟨G2,D2,Dr2,vr2,vc2,rfl,h02,hb2⟩
 obtain⟨r2,r0,rf,hinv⟩:=two_begun H0.out h02 hb2 1099511627776
 have HINV:=hiD hinv
 have HFW:Hid (Fr (fun q=>w.heap.size<=q) w (w2.setCell ⟨Dr2,0,none⟩ (.int .i64 1099511627776))):=(Fr.of_below (below_blk HB1.out hb2) _).set Dr2 0 _ (fun _=>by have:=h02.od;have:=HB1.out.size;omega)
 clear hinv h02 hb2 H0 HB1
 go_wp2
 generalize w2.setCell ⟨Dr2,0,none⟩ (.int .i64 1099511627776)=w3 at *
 clear r2 r0 rf
 generalize hBe:w.heap.size=B at *
 have HBe:=hiD hBe
 clear hBe
 go_loopw [15] (fun i wr=>∃ k:Nat,k<=n/\i=.int .i64 k/\BInv s g s2 g2 k G G2 B wr/\Fr (fun q=>B<=q) w wr) (fun i _=>n-(intOf i).toNat)
 case atStart=>exact⟨0,Nat.zero_le _,rfl,HINV,HFW⟩
 case round=>
  obtain⟨k,hk,rfl,hinv,hfr⟩:=hrel
  by_cases hlt:k<n
  ·have hsc:=HS.out.fr hfr
   rcases hsc.row with hnil|⟨gs,os,rfl,hrow⟩
   ·have h1:=HN.out;rw[hnil] at h1;simp at h1;omega
   have hok:=hsc.ok _ (getD_mem ops dO k (by rw[HN.out];exact hlt))
   obtain⟨c0,c1,c2,c3,c4,c5⟩:=opCells hrow k (by rw[HN.out];exact hlt)
   clear hrow hsc
   generalize ops.getD k dO=y at c0 c1 c2 c3 c4 c5 hok
   obtain⟨kd,on,oa1,ob1,ab,m,d,bl,oa,om,od,ys⟩:=y
   simp only at c0 c1 c2 c3 c4 c5
   have HONE:Hid (Calls Tryz.prog 28 #[.pointer (some ⟨G,0,none⟩),OpD.val ⟨kd,on,oa1,ob1,ab,m,d,bl,oa,om,od,ys⟩] wr fun e w'=>e=.returned (.bool true)/\BInv s g s2 g2 (k+1) G G2 B w'/\Fr (fun k=>B<=k) wr w'):=hinv.one _ hok HF.out (by omega)
   have HTWO:Hid (Calls Tryz.prog 28 #[.pointer (some ⟨G2,0,none⟩),OpD.val ⟨kd,on,oa1,ob1,ab,m,d,bl,oa,om,od,ys⟩] wr fun e w'=>e=.returned (.bool true)/\BInv s g s2 g2 (k+1) G G2 B w'/\Fr (fun k=>B<=k) wr w'):=hinv.two _ hok HF2.out (by omega)
   have HFR:=hiD hfr
   clear hok hinv hfr
   have e1:(0:Int)<=(k:Int):=by omega
   have e2:(k:Int)<(n:Int):=by omega
   cases ho:(Int.tmod on 2== 0)
   ·skip
    go_wp2_with fail
    refine HTWO.out.mono ?_
    rintro e w4 ⟨rfl,hinv4,hfr4⟩
    obtain⟨⟨Da,ga,hla⟩,_⟩:=hinv4.look (by omega)
    have HINV4:=hiD hinv4
    have HFR4:Hid (Fr (fun q=>B<=q) w w4):=HFR.out.trans hfr4
    have HLA:=hiD hla
    clear hinv4 hfr4 hla c0 c1 c2 c3 c4 c5 HONE HTWO
    go_wp2_with fail
    refine HLA.out.mono ?_
    rintro e w5 ⟨rfl,hb5⟩
    obtain⟨_,⟨Db,gb,hlb⟩⟩:=(HINV4.out.grown hb5).look (by omega)
    have HINV5:=hiD (HINV4.out.grown hb5)
    have HFR5:Hid (Fr (fun q=>B<=q) w w5):=HFR4.out.trans (Fr.of_below hb5 _)
    have HLB:=hiD hlb
    clear hb5 hlb ga HLA HINV4 HFR4
    go_wp2_with fail
    refine HLB.out.mono ?_
    rintro e w6 ⟨rfl,hb6⟩
    have HINV6:=hiD (HINV5.out.grown hb6)
    have HFR6:Hid (Fr (fun q=>B<=q) w w6):=HFR5.out.trans (Fr.of_below hb6 _)
    clear hb6 gb HLB HINV5 HFR5
    go_wp2
    go_roundw
    case rel=>exact⟨k+1,by omega,by go_num,HINV6,HFR6⟩
    case measure=>simp[intOf];omega
   ·skip
    go_wp2_with fail
    refine HONE.out.mono ?_
    rintro e w4 ⟨rfl,hinv4,hfr4⟩
    obtain⟨⟨Da,ga,hla⟩,_⟩:=hinv4.look (by omega)
    have HINV4:=hiD hinv4
    have HFR4:Hid (Fr (fun q=>B<=q) w w4):=HFR.out.trans hfr4
    have HLA:=hiD hla
    clear hinv4 hfr4 hla c0 c1 c2 c3 c4 c5 HONE HTWO
    go_wp2_with fail
    refine HLA.out.mono ?_
    rintro e w5 ⟨rfl,hb5⟩
    obtain⟨_,⟨Db,gb,hlb⟩⟩:=(HINV4.out.grown hb5).look (by omega)
    have HINV5:=hiD (HINV4.out.grown hb5)
    have HFR5:Hid (Fr (fun q=>B<=q) w w5):=HFR4.out.trans (Fr.of_below hb5 _)
    have HLB:=hiD hlb
    clear hb5 hlb ga HLA HINV4 HFR4
    go_wp2_with fail
    refine HLB.out.mono ?_
    rintro e w6 ⟨rfl,hb6⟩
    have HINV6:=hiD (HINV5.out.grown hb6)
    have HFR6:Hid (Fr (fun q=>B<=q) w w6):=HFR5.out.trans (Fr.of_below hb6 _)
    clear hb6 gb HLB HINV5 HFR5
    go_wp2
    go_roundw
    case rel=>exact⟨k+1,by omega,by go_num,HINV6,HFR6⟩
    case measure=>simp[intOf];omega
  ·have e2:¬(k:Int)<(n:Int):=by omega
   have HFIN:Hid (Below w.heap.size w wr):=by
    show Below w.heap.size w wr
    exact hfr.toBelow _ leR (fun q hq=>by have:=HBe.out;omega)
   clear hinv hfr
   go_wp2
   go_ret
   exact⟨rfl,HFIN⟩
theorem beside_law (s g s2 g2:Int) (so:OAd) (n c:Nat) (ops:List OpD) (w:World) (hs:Scr w.heap.size w so ops) (hn:ops.length=n) (hm:n<=1048576):
 Calls Tryz.prog 6 #[.int .i64 s,.int .i64 g,.int .i64 s2,.int .i64 g2,.slice so n c] w fun e w'=>e=.returned (.bool true)/\Below w.heap.size w w':=by
 cases h1:fitZ s g
 ·exact beside_no s g s2 g2 _ w (Or.inl h1)
 ·cases h2:fitZ s2 g2
  ·exact beside_no s g s2 g2 _ w (Or.inr h2)
  ·obtain⟨x1,x2,x3⟩:=fitZ_yes h1
   obtain⟨y1,y2,y3⟩:=fitZ_yes h2
   obtain⟨j,rfl⟩:∃ k:Nat,g=(k:Int):=⟨g.toNat,by omega⟩
   obtain⟨k,rfl⟩:∃ k:Nat,g2=(k:Int):=⟨g2.toNat,by omega⟩
   exact beside_yes s j s2 k h1 h2 so n c ops w hs hn hm
end
end Go.Proofs.YtffgpepngcnjeabGreat
