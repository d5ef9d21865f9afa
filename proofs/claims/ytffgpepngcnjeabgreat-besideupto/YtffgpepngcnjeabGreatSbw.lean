import Derived.Test.YtffgpepngcnjeabGreatSbv
import Derived.Test.YtffgpepngcnjeabGreatSbf
namespace Go.Proofs.YtffgpepngcnjeabGreat
set_option maxRecDepth 100000
set_option maxHeartbeats 8000000
section
open Go.RowKit

theorem looks_any (col:NtN) (z Dr q:Nat) (w:World) (hd:DrA col z w Dr q) (hq:q<=1000000000):
 Calls Tryz.prog 29 #[.pointer (some ⟨Dr,0,none⟩)] w fun e w'=>e=.returned (.bool true)/\Below w.heap.size w w':=by
 obtain⟨av4,n4,cv4,aw4,cw4,cs4,ns4,hl4,hn4⟩:=hd.ls (a:=4) (by omega) (by omega)
 have HL4:=hiD hl4
 obtain⟨av5,n5,cv5,aw5,cw5,cs5,ns5,hl5,hn5⟩:=hd.ls (a:=5) (by omega) (by omega)
 have HL5:=hiD hl5
 have hDl:Dr<w.heap.size:=hd.lt
 have HDD:=hiD hd
 clear hd hl4 hl5
 go_enter Tryz.func29,Tryz.ntmps29
 go_wp2_with fail
 refine(lists_any col z Dr q _ HDD hq).mono ?_
 rintro e w1 ⟨rfl,hb1⟩
 have HBw1:=hiD hb1
 clear hb1 HDD
 go_wp2
 go_loopw [4] (fun i wr=>∃ k:Nat,k<=n4/\i=.int .i64 k/\Below w1.heap.size w1 wr) (fun i _=>n4-(intOf i).toNat)
 case atStart=>exact⟨0,Nat.zero_le _,rfl,Below.refl _ _⟩
 case round=>
  obtain⟨k,hk,rfl,hbl0⟩:=hrel
  have hbl:Below w.heap.size w wr:=below_blk HBw1.out hbl0
  have p1:=(hbl.cell (p:=⟨Dr,4,none⟩) hDl).trans HL4.out.ca
  have p2:=(hbl.cell (p:=⟨Dr,9,none⟩) hDl).trans HL4.out.cb
  by_cases hlt:k<n4
  ·obtain⟨gv,ov,gw,ow,ao,m,c,y,hav,haw,c1,c2,hkp⟩:=HL4.out.one hlt
   have HKP:=hiD hkp
   rw[hav] at p1
   rw[haw] at p2
   have p3:=(hbl.cell (p:=⟨gv,ov+k*1,none⟩) (cell_lt c1)).trans c1
   have p4:=(hbl.cell (p:=⟨gw,ow+k*1,none⟩) (cell_lt c2)).trans c2
   rw[Nat.mul_one] at p3 p4
   clear c1 c2 hkp
   have hk0:(0:Int)<=(k:Int):=by omega
   have hkI:(k:Int)<(n4:Int):=by omega
   have hmm:m<=9223372036854775807:=by rcases HKP.out with e|e<;>omega
   obtain⟨wo,rfl⟩:∃ wo:World,wo=wr:=⟨_,rfl⟩
   go_wp2
   go_loopw [5] (fun i wr=>∃ j:Nat,j<=m/\i=.int .i64 j/\Below wo.heap.size wo wr) (fun i _=>m-(intOf i).toNat)
   case atStart=>exact⟨0,Nat.zero_le _,rfl,Below.refl _ _⟩
   case round=>
    obtain⟨j,hj,rfl,hbo⟩:=hrel
    have q1:=(hbo.cell (p:=⟨Dr,4,none⟩) (cell_lt p1)).trans p1
    have q2:=(hbo.cell (p:=⟨Dr,9,none⟩) (cell_lt p2)).trans p2
    have q3:=(hbo.cell (p:=⟨gv,ov+k,none⟩) (cell_lt p3)).trans p3
    have q4:=(hbo.cell (p:=⟨gw,ow+k,none⟩) (cell_lt p4)).trans p4
    have hbw:Below w1.heap.size w1 wr:=below_blk hbl0 hbo
    by_cases hjt:j<m
    ·rcases HKP.out with e|⟨_,b,hao,hv⟩
     ·omega
     have hvw:=hv.grown (below_blk hbl hbo)
     have d0:wr.cell? ⟨b,j*2,none⟩=some (.int .i64 y):=kept_cell (a:=4) (k:=2) (fun _=>rfl) hvw hjt 0 (by omega) rfl
     have d1:wr.cell? ⟨b,j*2+1,none⟩=some (.int .i64 y):=kept_cell (a:=4) (k:=2) (fun _=>rfl) hvw hjt 1 (by omega) rfl
     rw[hao] at q3
     have hj0:(0:Int)<=(j:Int):=by omega
     have hjI:(j:Int)<(m:Int):=by omega
     have hb0:b<wr.heap.size:=cell_lt d0
     clear hv hvw
     go_wp2
     go_quiet (fail)
     have hbq:Below wo.heap.size wo (wr.drewN nq):=⟨hbo.os,hbo.tape,hbo.output,hbo.size,hbo.block⟩
     go_wp2
     go_roundw
     case rel=>exact⟨j+1,by omega,by go_num,hbq⟩
     case measure=>simp[intOf];omega
    ·have hjn:¬(j:Int)<(m:Int):=by omega
     go_wp2
     go_roundw
     case rel=>exact⟨k+1,by omega,by go_num,hbw⟩
     case measure=>simp[intOf];omega
  ·obtain⟨w2,rfl⟩:∃ w2:World,w2=wr:=⟨_,rfl⟩
   have HBw2:=hiD hbl
   have hkn:¬(k:Int)<(n4:Int):=by omega
   clear hbl hbl0
   go_wp2
   clear p1 p2 hkn hlt hk
   go_loopw [6] (fun i wr=>∃ k:Nat,k<=n5/\i=.int .i64 k/\Below w2.heap.size w2 wr) (fun i _=>n5-(intOf i).toNat)
   case atStart=>exact⟨0,Nat.zero_le _,rfl,Below.refl _ _⟩
   case round=>
    obtain⟨k,hk,rfl,hbl0⟩:=hrel
    have hbl:Below w.heap.size w wr:=below_blk HBw2.out hbl0
    have p1:=(hbl.cell (p:=⟨Dr,5,none⟩) hDl).trans HL5.out.ca
    have p2:=(hbl.cell (p:=⟨Dr,10,none⟩) hDl).trans HL5.out.cb
    by_cases hlt:k<n5
    ·obtain⟨gv,ov,gw,ow,ao,m,c,y,hav,haw,c1,c2,hkp⟩:=HL5.out.one hlt
     have HKP:=hiD hkp
     rw[hav] at p1
     rw[haw] at p2
     have p3:=(hbl.cell (p:=⟨gv,ov+k*1,none⟩) (cell_lt c1)).trans c1
     have p4:=(hbl.cell (p:=⟨gw,ow+k*1,none⟩) (cell_lt c2)).trans c2
     rw[Nat.mul_one] at p3 p4
     clear c1 c2 hkp
     have hk0:(0:Int)<=(k:Int):=by omega
     have hkI:(k:Int)<(n5:Int):=by omega
     have hmm:m<=9223372036854775807:=by rcases HKP.out with e|e<;>omega
     obtain⟨wo,rfl⟩:∃ wo:World,wo=wr:=⟨_,rfl⟩
     go_wp2
     go_loopw [7] (fun i wr=>∃ j:Nat,j<=m/\i=.int .i64 j/\Below wo.heap.size wo wr) (fun i _=>m-(intOf i).toNat)
     case atStart=>exact⟨0,Nat.zero_le _,rfl,Below.refl _ _⟩
     case round=>
      obtain⟨j,hj,rfl,hbo⟩:=hrel
      have q1:=(hbo.cell (p:=⟨Dr,5,none⟩) (cell_lt p1)).trans p1
      have q2:=(hbo.cell (p:=⟨Dr,10,none⟩) (cell_lt p2)).trans p2
      have q3:=(hbo.cell (p:=⟨gv,ov+k,none⟩) (cell_lt p3)).trans p3
      have q4:=(hbo.cell (p:=⟨gw,ow+k,none⟩) (cell_lt p4)).trans p4
      have hbw:Below w2.heap.size w2 wr:=below_blk hbl0 hbo
      by_cases hjt:j<m
      ·rcases HKP.out with e|⟨_,b,hao,hv⟩
       ·omega
       have hvw:=hv.grown (below_blk hbl hbo)
       have d0:wr.cell? ⟨b,j*6,none⟩=some (.int .i64 y):=kept_cell (a:=5) (k:=6) (fun _=>rfl) hvw hjt 0 (by omega) rfl
       have d1:wr.cell? ⟨b,j*6+1,none⟩=some (.int .i64 y):=kept_cell (a:=5) (k:=6) (fun _=>rfl) hvw hjt 1 (by omega) rfl
       have d2:wr.cell? ⟨b,j*6+2,none⟩=some (.int .i64 y):=kept_cell (a:=5) (k:=6) (fun _=>rfl) hvw hjt 2 (by omega) rfl
       have d3:wr.cell? ⟨b,j*6+3,none⟩=some (.int .i64 y):=kept_cell (a:=5) (k:=6) (fun _=>rfl) hvw hjt 3 (by omega) rfl
       have d4:wr.cell? ⟨b,j*6+4,none⟩=some (.int .i64 y):=kept_cell (a:=5) (k:=6) (fun _=>rfl) hvw hjt 4 (by omega) rfl
       have d5:wr.cell? ⟨b,j*6+5,none⟩=some (.int .i64 y):=kept_cell (a:=5) (k:=6) (fun _=>rfl) hvw hjt 5 (by omega) rfl
       rw[hao] at q3
       have hj0:(0:Int)<=(j:Int):=by omega
       have hjI:(j:Int)<(m:Int):=by omega
       have hb0:b<wr.heap.size:=cell_lt d0
       clear hv hvw
       have l2:Dr<wr.heap.size:=cell_lt q2
       have l4:gw<wr.heap.size:=cell_lt q4
       have hbr:Below wr.heap.size wr (wr.alloc (.cells #[.int .i64 y,.int .i64 y,.int .i64 y,.int .i64 y,.int .i64 y,.int .i64 y] 107)):=(Below.refl _ _).alloc leR _
       have HBA:Hid (Below wo.heap.size wo (wr.alloc (.cells #[.int .i64 y,.int .i64 y,.int .i64 y,.int .i64 y,.int .i64 y,.int .i64 y] 107))):=hbo.alloc hbo.size _
       obtain⟨x0,x1,x2,x3,x4,x5⟩:=six_at (vrow_new wr [.int .i64 y,.int .i64 y,.int .i64 y,.int .i64 y,.int .i64 y,.int .i64 y] 107)
       have z2:=(hbr.cell (p:=⟨Dr,10,none⟩) l2).trans q2
       have z4:=(hbr.cell (p:=⟨gw,ow+k,none⟩) l4).trans q4
       clear hbr
       go_wp2
       generalize wr.alloc (.cells #[.int .i64 y,.int .i64 y,.int .i64 y,.int .i64 y,.int .i64 y,.int .i64 y] 107)=wx at *
       generalize wr.heap.size=X at *
       clear q1 q2 q3 q4 d0 d1 d2 d3 d4 d5 p1 p2 p3 p4 hbo hbw hbl hbl0
       go_quiet (fail)
       have hbq:Below wo.heap.size wo (wx.drewN nq):=⟨HBA.out.os,HBA.out.tape,HBA.out.output,HBA.out.size,HBA.out.block⟩
       go_wp2
       go_roundw
       case rel=>exact⟨j+1,by omega,by go_num,hbq⟩
       case measure=>simp[intOf];omega
      ·have hjn:¬(j:Int)<(m:Int):=by omega
       go_wp2
       go_roundw
       case rel=>exact⟨k+1,by omega,by go_num,hbw⟩
       case measure=>simp[intOf];omega
    ·obtain⟨w3,rfl⟩:∃ w3:World,w3=wr:=⟨_,rfl⟩
     have HBw3:=hiD hbl
     have hkn:¬(k:Int)<(n5:Int):=by omega
     clear hbl hbl0
     go_wp2
     go_ret
     exact⟨rfl,HBw3⟩
end
end Go.Proofs.YtffgpepngcnjeabGreat
