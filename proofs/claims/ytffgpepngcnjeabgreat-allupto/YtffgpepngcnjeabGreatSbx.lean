import Derived.Test.YtffgpepngcnjeabGreatSao
namespace Go.Proofs.YtffgpepngcnjeabGreat
set_option maxRecDepth 100000
set_option maxHeartbeats 8000000
section
open Go.RowKit
variable {M:Nat}
def LookOk (Inv:Nat->Nat->Nat->World->Prop) (M:Nat):Prop:=∀ k G B w,k<=M->Inv k G B w->∃ Dr,w.cell? ⟨G,2,none⟩=some (.pointer (some ⟨Dr,0,none⟩))/\Calls Tryz.prog 29 #[.pointer (some ⟨Dr,0,none⟩)] w fun e w'=>e=.returned (.bool true)/\Below w.heap.size w w'
theorem playsL_yes (s g last lo hi ask asks:Int) (Inv:Nat->Nat->Nat->World->Prop) (hi0:PlayOk last ask asks Inv M) (hlk0:LookOk Inv M)
 (hbg:∀ w,Calls Tryz.prog 27 #[.int .i64 s,.int .i64 g] w fun e w'=>∃ G,e=.returned (.tuple #[.pointer (some ⟨G,0,none⟩),.bool true])/\Inv 0 G w.heap.size w'/\Below w.heap.size w w')
 (so:OAd) (n c:Nat) (ops:List OpD) (w:World) (hs:Scr w.heap.size w so ops) (hn:ops.length=n) (hm:n<=M) (hM:M<=1759218604390:=by decide):
 Calls Tryz.prog 8 #[.int .i64 s,.int .i64 g,.slice so n c,.agg #[.int .i64 last,.int .i64 lo,.int .i64 hi,.int .i64 ask,.int .i64 asks,.bool true]] w fun e w'=>e=.returned (.bool true)/\Below w.heap.size w w':=by
 have HI:=hiD hi0
 have HLK:=hiD hlk0
 have HBG:Hid _:=hbg
 have HN:=hiD hn
 have hb1:Below w.heap.size w (w.alloc (.cells #[.int .i64 last,.int .i64 lo,.int .i64 hi,.int .i64 ask,.int .i64 asks,.bool true] 25)):=(Below.refl _ _).alloc leR _
 have hv1:VRow (w.alloc (.cells #[.int .i64 last,.int .i64 lo,.int .i64 hi,.int .i64 ask,.int .i64 asks,.bool true] 25)) w.heap.size 0 [.int .i64 last,.int .i64 lo,.int .i64 hi,.int .i64 ask,.int .i64 asks,.bool true]:=vrow_new _ _ _
 have hz1:(w.alloc (.cells #[.int .i64 last,.int .i64 lo,.int .i64 hi,.int .i64 ask,.int .i64 asks,.bool true] 25)).heap.size=w.heap.size+1:=by simp
 have HS1:Hid (Scr (w.heap.size+1) (w.alloc (.cells #[.int .i64 last,.int .i64 lo,.int .i64 hi,.int .i64 ask,.int .i64 asks,.bool true] 25)) so ops):=by
  refine⟨hs.row.grown hb1,fun h a ha=>by have:=hs.na h a ha;omega,fun x hx=>?_⟩
  have h1:=(hs.ok x hx).fr (Fr.of_below hb1 (fun _=>False)) (fun _ _ h=>h)
  obtain⟨⟨r,na,ok⟩,a2,a3,a4,a5,a6,a7,a8,a9,a10⟩:=h1
  exact⟨⟨r,fun h a ha=>Nat.lt_succ_of_lt (na h a ha),fun t ht=>⟨(ok t ht).ins,(ok t ht).il,(ok t ht).outs,(ok t ht).ol,fun h a ha=>Nat.lt_succ_of_lt ((ok t ht).na h a ha),fun h a ha=>Nat.lt_succ_of_lt ((ok t ht).np h a ha),fun i hi h a ha=>Nat.lt_succ_of_lt ((ok t ht).ns i hi h a ha)⟩⟩,a2,a3,a4,a5,a6,a7,fun e a ha=>Nat.lt_succ_of_lt (a8 e a ha),a9,a10⟩
 have HV1:=hiD hv1
 clear hi0 hlk0 hbg hn hs hv1
 go_enter Tryz.func8,Tryz.ntmps8
 go_wp2_with fail
 generalize w.alloc (.cells #[.int .i64 last,.int .i64 lo,.int .i64 hi,.int .i64 ask,.int .i64 asks,.bool true] 25)=w1 at *
 generalize hTe:w.heap.size=T at *
 have HTe:=hiD hTe
 clear hTe
 refine(HBG w1).mono ?_
 rintro e w2 ⟨G,rfl,hinv,hb2⟩
 rw[hz1] at hinv hb2
 have hs2:=HI.out.size _ _ _ _ hinv
 have HS2:Hid (Scr (T+1) w2 so ops):=HS1.out.fr (Fr.of_below (by rw[hz1];exact hb2) _)
 have HV2:Hid (VRow w2 T 0 [.int .i64 last,.int .i64 lo,.int .i64 hi,.int .i64 ask,.int .i64 asks,.bool true]):=HV1.out.below hb2 (by omega)
 have HB2:Hid (Below T w w2):=hb1.trans (hb2.mono (by omega))
 have HINV:=hiD hinv
 clear hinv hb1 hb2 HS1 HV1 hz1 HBG
 go_wp2
 go_loopw [11] (fun i wr=>∃ k:Nat,k<=n/\i=.int .i64 k/\Inv k G (T+1) wr/\Fr (fun q=>T+1<=q) w2 wr) (fun i _=>n-(intOf i).toNat)
 case atStart=>exact⟨0,Nat.zero_le _,rfl,HINV,Fr.refl _ _⟩
 case round=>
  obtain⟨k,hk,rfl,hinv,hfr⟩:=hrel
  have hsk:=HI.out.size _ _ _ _ hinv
  have hv:=hfr.vrow HV2.out (by omega)
  by_cases hlt:k<n
  ·have hsc:=HS2.out.fr hfr
   rcases hsc.row with hnil|⟨gs,os,rfl,hrow⟩
   ·have h1:=HN.out;rw[hnil] at h1;simp at h1;omega
   have hok:=hsc.ok _ (getD_mem ops dO k (by rw[HN.out];exact hlt))
   obtain⟨c0,c1,c2,c3,c4,c5⟩:=opCells hrow k (by rw[HN.out];exact hlt)
   clear hrow hsc
   generalize ops.getD k dO=y at c0 c1 c2 c3 c4 c5 hok
   obtain⟨kd,on,oa1,ob1,ab,m,d,bl,oa,om,od,ys⟩:=y
   simp only at c0 c1 c2 c3 c4 c5
   have b0:=hv 0 (by simp)
   have b1:=hv 1 (by simp)
   have b2:=hv 2 (by simp)
   have b3:=hv 3 (by simp)
   have b4:=hv 4 (by simp)
   have b5:=hv 5 (by simp)
   simp only[Nat.zero_add,List.getD,List.getElem?_cons_zero,List.getElem?_cons_succ,Option.getD_some] at b0 b1 b2 b3 b4 b5
   have hTl:T<wr.heap.size:=by omega
   have hbo:Below wr.heap.size wr (wr.alloc (.cells #[.int .i64 kd,.int .i64 on,.int .i64 oa1,.int .i64 ob1,.slice ab m d,.slice oa om od] 82)):=(Below.refl _ _).alloc leR _
   have HINV3:Hid (Inv k G (T+1) (wr.alloc (.cells #[.int .i64 kd,.int .i64 on,.int .i64 oa1,.int .i64 ob1,.slice ab m d,.slice oa om od] 82))):=HI.out.grow _ _ _ _ _ hinv hbo
   have HOK3:Hid (OpOk (fun q=>q<T+1) (wr.alloc (.cells #[.int .i64 kd,.int .i64 on,.int .i64 oa1,.int .i64 ob1,.slice ab m d,.slice oa om od] 82)) ⟨kd,on,oa1,ob1,ab,m,d,bl,oa,om,od,ys⟩):=hok.fr (Fr.of_below hbo (fun _=>False)) (fun _ _ h=>h)
   have HFR3:Hid (Fr (fun q=>T+1<=q) w2 (wr.alloc (.cells #[.int .i64 kd,.int .i64 on,.int .i64 oa1,.int .i64 ob1,.slice ab m d,.slice oa om od] 82))):=hfr.trans (Fr.of_below hbo _)
   have HKB5:Hid (∀ w4:World,Fr (fun q=>T+1<=q) (wr.alloc (.cells #[.int .i64 kd,.int .i64 on,.int .i64 oa1,.int .i64 ob1,.slice ab m d,.slice oa om od] 82)) w4->w4.cell? ⟨T,5,none⟩=some (.bool true)):=fun w4 h4=>h4.cell ((hbo.cell (p:=⟨T,5,none⟩) (cell_lt b5)).trans b5) (by omega)
   clear hok hbo hinv hfr hv
   have e1:(0:Int)<=(k:Int):=by omega
   have e2:(k:Int)<(n:Int):=by omega
   have HK:Hid (∀ w4:World,Inv (k+1) G (T+1) w4/\Fr (fun q=>T+1<=q) (wr.alloc (.cells #[.int .i64 kd,.int .i64 on,.int .i64 oa1,.int .i64 ob1,.slice ab m d,.slice oa om od] 82)) w4->Inv (k+1) G (T+1) w4/\Fr (fun q=>T+1<=q) w2 w4):=fun w4 h4=>⟨h4.1,HFR3.out.trans h4.2⟩
   cases h1:decide (ask<=kd)
   ·cases h3:decide (last<kd)
    ·have hc:kd<=last\/(ask<=kd/\kd<=asks):=Or.inl (by have:=decide_eq_false_iff_not.1 h3;omega)
     cases h4:decide (lo<=kd)
     ·go_wp2_with fail
      refine(HI.out.step k G (T+1) _ ⟨kd,on,oa1,ob1,ab,m,d,bl,oa,om,od,ys⟩ (by omega) HINV3 HOK3 hc).mono ?_
      rintro e w4 ⟨rfl,hinv4,hfr4⟩
      have q5:=HKB5.out w4 hfr4
      obtain⟨Dr,g2,hlook⟩:=HLK.out (k+1) G (T+1) w4 (by omega) hinv4
      have HLO:=hiD hlook
      have HK4:Hid (∀ w5:World,Below w4.heap.size w4 w5->Inv (k+1) G (T+1) w5/\Fr (fun q=>T+1<=q) w2 w5):=fun w5 hb5=>HK.out w5 ⟨HI.out.grow _ _ _ _ _ hinv4 hb5,hfr4.trans (Fr.of_below hb5 _)⟩
      clear hinv4 hfr4 hlook b0 b1 b2 b3 b4 b5 c0 c1 c2 c3 c4 c5
      go_wp2_with fail
      refine HLO.out.mono ?_
      rintro e w5 ⟨rfl,hb5⟩
      have HK5:Hid (Inv (k+1) G (T+1) w5/\Fr (fun q=>T+1<=q) w2 w5):=HK4.out w5 hb5
      clear hb5
      go_wp2
      go_roundw
      case rel=>exact⟨k+1,by omega,by go_num,HK5.out.1,HK5.out.2⟩
      case measure=>simp[intOf];omega
     ·cases h5:decide (kd<=hi)
      ·go_wp2_with fail
       refine(HI.out.step k G (T+1) _ ⟨kd,on,oa1,ob1,ab,m,d,bl,oa,om,od,ys⟩ (by omega) HINV3 HOK3 hc).mono ?_
       rintro e w4 ⟨rfl,hinv4,hfr4⟩
       have q5:=HKB5.out w4 hfr4
       obtain⟨Dr,g2,hlook⟩:=HLK.out (k+1) G (T+1) w4 (by omega) hinv4
       have HLO:=hiD hlook
       have HK4:Hid (∀ w5:World,Below w4.heap.size w4 w5->Inv (k+1) G (T+1) w5/\Fr (fun q=>T+1<=q) w2 w5):=fun w5 hb5=>HK.out w5 ⟨HI.out.grow _ _ _ _ _ hinv4 hb5,hfr4.trans (Fr.of_below hb5 _)⟩
       clear hinv4 hfr4 hlook b0 b1 b2 b3 b4 b5 c0 c1 c2 c3 c4 c5
       go_wp2_with fail
       refine HLO.out.mono ?_
       rintro e w5 ⟨rfl,hb5⟩
       have HK5:Hid (Inv (k+1) G (T+1) w5/\Fr (fun q=>T+1<=q) w2 w5):=HK4.out w5 hb5
       clear hb5
       go_wp2
       go_roundw
       case rel=>exact⟨k+1,by omega,by go_num,HK5.out.1,HK5.out.2⟩
       case measure=>simp[intOf];omega
      ·go_wp2_with fail
       refine(HI.out.step k G (T+1) _ ⟨kd,on,oa1,ob1,ab,m,d,bl,oa,om,od,ys⟩ (by omega) HINV3 HOK3 hc).mono ?_
       rintro e w4 ⟨rfl,hinv4,hfr4⟩
       have q5:=HKB5.out w4 hfr4
       obtain⟨Dr,g2,hlook⟩:=HLK.out (k+1) G (T+1) w4 (by omega) hinv4
       have HLO:=hiD hlook
       have HK4:Hid (∀ w5:World,Below w4.heap.size w4 w5->Inv (k+1) G (T+1) w5/\Fr (fun q=>T+1<=q) w2 w5):=fun w5 hb5=>HK.out w5 ⟨HI.out.grow _ _ _ _ _ hinv4 hb5,hfr4.trans (Fr.of_below hb5 _)⟩
       clear hinv4 hfr4 hlook b0 b1 b2 b3 b4 b5 c0 c1 c2 c3 c4 c5
       go_wp2_with fail
       refine HLO.out.mono ?_
       rintro e w5 ⟨rfl,hb5⟩
       have HK5:Hid (Inv (k+1) G (T+1) w5/\Fr (fun q=>T+1<=q) w2 w5):=HK4.out w5 hb5
       clear hb5
       go_wp2
       go_roundw
       case rel=>exact⟨k+1,by omega,by go_num,HK5.out.1,HK5.out.2⟩
       case measure=>simp[intOf];omega
    ·go_wp2
     go_roundw
     case rel=>exact⟨k+1,by omega,by go_num,HI.out.more _ _ _ _ HINV3,HFR3⟩
     case measure=>simp[intOf];omega
   ·cases h2:decide (kd<=asks)
    ·cases h3:decide (last<kd)
     ·have hc:kd<=last\/(ask<=kd/\kd<=asks):=Or.inl (by have:=decide_eq_false_iff_not.1 h3;omega)
      cases h4:decide (lo<=kd)
      ·go_wp2_with fail
       refine(HI.out.step k G (T+1) _ ⟨kd,on,oa1,ob1,ab,m,d,bl,oa,om,od,ys⟩ (by omega) HINV3 HOK3 hc).mono ?_
       rintro e w4 ⟨rfl,hinv4,hfr4⟩
       have q5:=HKB5.out w4 hfr4
       obtain⟨Dr,g2,hlook⟩:=HLK.out (k+1) G (T+1) w4 (by omega) hinv4
       have HLO:=hiD hlook
       have HK4:Hid (∀ w5:World,Below w4.heap.size w4 w5->Inv (k+1) G (T+1) w5/\Fr (fun q=>T+1<=q) w2 w5):=fun w5 hb5=>HK.out w5 ⟨HI.out.grow _ _ _ _ _ hinv4 hb5,hfr4.trans (Fr.of_below hb5 _)⟩
       clear hinv4 hfr4 hlook b0 b1 b2 b3 b4 b5 c0 c1 c2 c3 c4 c5
       go_wp2_with fail
       refine HLO.out.mono ?_
       rintro e w5 ⟨rfl,hb5⟩
       have HK5:Hid (Inv (k+1) G (T+1) w5/\Fr (fun q=>T+1<=q) w2 w5):=HK4.out w5 hb5
       clear hb5
       go_wp2
       go_roundw
       case rel=>exact⟨k+1,by omega,by go_num,HK5.out.1,HK5.out.2⟩
       case measure=>simp[intOf];omega
      ·cases h5:decide (kd<=hi)
       ·go_wp2_with fail
        refine(HI.out.step k G (T+1) _ ⟨kd,on,oa1,ob1,ab,m,d,bl,oa,om,od,ys⟩ (by omega) HINV3 HOK3 hc).mono ?_
        rintro e w4 ⟨rfl,hinv4,hfr4⟩
        have q5:=HKB5.out w4 hfr4
        obtain⟨Dr,g2,hlook⟩:=HLK.out (k+1) G (T+1) w4 (by omega) hinv4
        have HLO:=hiD hlook
        have HK4:Hid (∀ w5:World,Below w4.heap.size w4 w5->Inv (k+1) G (T+1) w5/\Fr (fun q=>T+1<=q) w2 w5):=fun w5 hb5=>HK.out w5 ⟨HI.out.grow _ _ _ _ _ hinv4 hb5,hfr4.trans (Fr.of_below hb5 _)⟩
        clear hinv4 hfr4 hlook b0 b1 b2 b3 b4 b5 c0 c1 c2 c3 c4 c5
        go_wp2_with fail
        refine HLO.out.mono ?_
        rintro e w5 ⟨rfl,hb5⟩
        have HK5:Hid (Inv (k+1) G (T+1) w5/\Fr (fun q=>T+1<=q) w2 w5):=HK4.out w5 hb5
        clear hb5
        go_wp2
        go_roundw
        case rel=>exact⟨k+1,by omega,by go_num,HK5.out.1,HK5.out.2⟩
        case measure=>simp[intOf];omega
       ·go_wp2_with fail
        refine(HI.out.step k G (T+1) _ ⟨kd,on,oa1,ob1,ab,m,d,bl,oa,om,od,ys⟩ (by omega) HINV3 HOK3 hc).mono ?_
        rintro e w4 ⟨rfl,hinv4,hfr4⟩
        have q5:=HKB5.out w4 hfr4
        obtain⟨Dr,g2,hlook⟩:=HLK.out (k+1) G (T+1) w4 (by omega) hinv4
        have HLO:=hiD hlook
        have HK4:Hid (∀ w5:World,Below w4.heap.size w4 w5->Inv (k+1) G (T+1) w5/\Fr (fun q=>T+1<=q) w2 w5):=fun w5 hb5=>HK.out w5 ⟨HI.out.grow _ _ _ _ _ hinv4 hb5,hfr4.trans (Fr.of_below hb5 _)⟩
        clear hinv4 hfr4 hlook b0 b1 b2 b3 b4 b5 c0 c1 c2 c3 c4 c5
        go_wp2_with fail
        refine HLO.out.mono ?_
        rintro e w5 ⟨rfl,hb5⟩
        have HK5:Hid (Inv (k+1) G (T+1) w5/\Fr (fun q=>T+1<=q) w2 w5):=HK4.out w5 hb5
        clear hb5
        go_wp2
        go_roundw
        case rel=>exact⟨k+1,by omega,by go_num,HK5.out.1,HK5.out.2⟩
        case measure=>simp[intOf];omega
     ·go_wp2
      go_roundw
      case rel=>exact⟨k+1,by omega,by go_num,HI.out.more _ _ _ _ HINV3,HFR3⟩
      case measure=>simp[intOf];omega
    ·have hc:kd<=last\/(ask<=kd/\kd<=asks):=Or.inr ⟨decide_eq_true_iff.1 h1,decide_eq_true_iff.1 h2⟩
     cases h3:decide (last<kd)
     ·go_wp2_with fail
      refine(HI.out.step k G (T+1) _ ⟨kd,on,oa1,ob1,ab,m,d,bl,oa,om,od,ys⟩ (by omega) HINV3 HOK3 hc).mono ?_
      rintro e w4 ⟨rfl,hinv4,hfr4⟩
      have q5:=HKB5.out w4 hfr4
      obtain⟨Dr,g2,hlook⟩:=HLK.out (k+1) G (T+1) w4 (by omega) hinv4
      have HLO:=hiD hlook
      have HK4:Hid (∀ w5:World,Below w4.heap.size w4 w5->Inv (k+1) G (T+1) w5/\Fr (fun q=>T+1<=q) w2 w5):=fun w5 hb5=>HK.out w5 ⟨HI.out.grow _ _ _ _ _ hinv4 hb5,hfr4.trans (Fr.of_below hb5 _)⟩
      clear hinv4 hfr4 hlook b0 b1 b2 b3 b4 b5 c0 c1 c2 c3 c4 c5
      go_wp2_with fail
      refine HLO.out.mono ?_
      rintro e w5 ⟨rfl,hb5⟩
      have HK5:Hid (Inv (k+1) G (T+1) w5/\Fr (fun q=>T+1<=q) w2 w5):=HK4.out w5 hb5
      clear hb5
      go_wp2
      go_roundw
      case rel=>exact⟨k+1,by omega,by go_num,HK5.out.1,HK5.out.2⟩
      case measure=>simp[intOf];omega
     ·go_wp2_with fail
      refine(HI.out.step k G (T+1) _ ⟨kd,on,oa1,ob1,ab,m,d,bl,oa,om,od,ys⟩ (by omega) HINV3 HOK3 hc).mono ?_
      rintro e w4 ⟨rfl,hinv4,hfr4⟩
      have q5:=HKB5.out w4 hfr4
      obtain⟨Dr,g2,hlook⟩:=HLK.out (k+1) G (T+1) w4 (by omega) hinv4
      have HLO:=hiD hlook
      have HK4:Hid (∀ w5:World,Below w4.heap.size w4 w5->Inv (k+1) G (T+1) w5/\Fr (fun q=>T+1<=q) w2 w5):=fun w5 hb5=>HK.out w5 ⟨HI.out.grow _ _ _ _ _ hinv4 hb5,hfr4.trans (Fr.of_below hb5 _)⟩
      clear hinv4 hfr4 hlook b0 b1 b2 b3 b4 b5 c0 c1 c2 c3 c4 c5
      go_wp2_with fail
      refine HLO.out.mono ?_
      rintro e w5 ⟨rfl,hb5⟩
      have HK5:Hid (Inv (k+1) G (T+1) w5/\Fr (fun q=>T+1<=q) w2 w5):=HK4.out w5 hb5
      clear hb5
      go_wp2
      go_roundw
      case rel=>exact⟨k+1,by omega,by go_num,HK5.out.1,HK5.out.2⟩
      case measure=>simp[intOf];omega
  ·have HFIN:Hid (Below w.heap.size w wr):=by
    show Below w.heap.size w wr
    rw[HTe.out]
    exact HB2.out.trans (hfr.toBelow T (by omega) (fun q hq=>by omega))
   go_wp2
   go_ret
   exact⟨rfl,HFIN⟩
theorem playsL_no (s g last lo hi ask asks:Int) (hf:fitZ s g=false) (v:Value) (w:World):
 Calls Tryz.prog 8 #[.int .i64 s,.int .i64 g,v,.agg #[.int .i64 last,.int .i64 lo,.int .i64 hi,.int .i64 ask,.int .i64 asks,.bool true]] w fun e w'=>e=.returned (.bool true)/\Below w.heap.size w w':=by
 have hb1:Below w.heap.size w (w.alloc (.cells #[.int .i64 last,.int .i64 lo,.int .i64 hi,.int .i64 ask,.int .i64 asks,.bool true] 25)):=(Below.refl _ _).alloc leR _
 go_enter Tryz.func8,Tryz.ntmps8
 go_wp2_with fail
 refine(begin_no s g _ hf).mono ?_
 rintro e w2 ⟨rfl,hb2⟩
 go_wp2
 go_ret
 exact⟨rfl,below_blk hb1 hb2⟩
end
end Go.Proofs.YtffgpepngcnjeabGreat
