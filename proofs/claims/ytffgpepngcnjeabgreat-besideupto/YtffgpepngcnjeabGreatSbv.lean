import Derived.Test.YtffgpepngcnjeabGreatSbu
namespace Go.Proofs.YtffgpepngcnjeabGreat
set_option maxRecDepth 100000
set_option maxHeartbeats 8000000
section
open Go.RowKit
variable {a k b m j:Nat} {w:World} {y:Int} {v:Value}
theorem rep_get (m:Nat) (y d:Int) (j:Nat) (h:j<m):(List.replicate m y).getD j d=y:=by simp[List.getD,h]
theorem kept_cell (hk:∀ z,(patOf a z).length=k) (hv:VRow w b 0 ((List.replicate m y).flatMap (patOf a))) (hj:j<m) (t:Nat) (ht:t<k) (e:(patOf a y).getD t dV=v):w.cell? ⟨b,j*k+t,none⟩=some v:=by
 have h9:=rcell hk 0 hv j (by rw[List.length_replicate];exact hj) t ht
 rw[Nat.zero_add,rep_get m y 0 j hj,e] at h9
 exact h9
theorem lists_any (col:NtN) (z Dr q:Nat) (w:World) (hd:DrA col z w Dr q) (hq:q<=1000000000):
 Calls Tryz.prog 75 #[.pointer (some ⟨Dr,0,none⟩)] w fun e w'=>e=.returned (.bool true)/\Below w.heap.size w w':=by
 obtain⟨av1,n1,cv1,aw1,cw1,cs1,ns1,hl1,hn1⟩:=hd.ls (a:=1) (by omega) (by omega)
 have HL1:=hiD hl1
 obtain⟨av2,n2,cv2,aw2,cw2,cs2,ns2,hl2,hn2⟩:=hd.ls (a:=2) (by omega) (by omega)
 have HL2:=hiD hl2
 obtain⟨av3,n3,cv3,aw3,cw3,cs3,ns3,hl3,hn3⟩:=hd.ls (a:=3) (by omega) (by omega)
 have HL3:=hiD hl3
 have hDl:Dr<w.heap.size:=hd.lt
 clear hd hl1 hl2 hl3
 go_enter Tryz.func75,Tryz.ntmps75
 go_wp2
 go_loopw [3] (fun i wr=>∃ k:Nat,k<=n1/\i=.int .i64 k/\Below w.heap.size w wr) (fun i _=>n1-(intOf i).toNat)
 case atStart=>exact⟨0,Nat.zero_le _,rfl,Below.refl _ _⟩
 case round=>
  obtain⟨k,hk,rfl,hbl0⟩:=hrel
  have hbl:Below w.heap.size w wr:=hbl0
  have p1:=(hbl.cell (p:=⟨Dr,1,none⟩) hDl).trans HL1.out.ca
  have p2:=(hbl.cell (p:=⟨Dr,6,none⟩) hDl).trans HL1.out.cb
  by_cases hlt:k<n1
  ·obtain⟨gv,ov,gw,ow,ao,m,c,y,hav,haw,c1,c2,hkp⟩:=HL1.out.one hlt
   have HKP:=hiD hkp
   rw[hav] at p1
   rw[haw] at p2
   have p3:=(hbl.cell (p:=⟨gv,ov+k*1,none⟩) (cell_lt c1)).trans c1
   have p4:=(hbl.cell (p:=⟨gw,ow+k*1,none⟩) (cell_lt c2)).trans c2
   rw[Nat.mul_one] at p3 p4
   clear c1 c2 hkp
   have hk0:(0:Int)<=(k:Int):=by omega
   have hkI:(k:Int)<(n1:Int):=by omega
   have hmm:m<=9223372036854775807:=by rcases HKP.out with e|e<;>omega
   obtain⟨wo,rfl⟩:∃ wo:World,wo=wr:=⟨_,rfl⟩
   go_wp2
   go_loopw [4] (fun i wr=>∃ j:Nat,j<=m/\i=.int .i64 j/\Below wo.heap.size wo wr) (fun i _=>m-(intOf i).toNat)
   case atStart=>exact⟨0,Nat.zero_le _,rfl,Below.refl _ _⟩
   case round=>
    obtain⟨j,hj,rfl,hbo⟩:=hrel
    have q1:=(hbo.cell (p:=⟨Dr,1,none⟩) (cell_lt p1)).trans p1
    have q2:=(hbo.cell (p:=⟨Dr,6,none⟩) (cell_lt p2)).trans p2
    have q3:=(hbo.cell (p:=⟨gv,ov+k,none⟩) (cell_lt p3)).trans p3
    have q4:=(hbo.cell (p:=⟨gw,ow+k,none⟩) (cell_lt p4)).trans p4
    have hbw:Below w.heap.size w wr:=below_blk hbl0 hbo
    by_cases hjt:j<m
    ·rcases HKP.out with e|⟨_,b,hao,hv⟩
     ·omega
     have hvw:=hv.grown (below_blk hbl hbo)
     have d0:wr.cell? ⟨b,j,none⟩=some (.int .i64 y):=by have h9:=kept_cell (a:=1) (k:=1) (fun _=>rfl) hvw hjt 0 (by omega) rfl;rwa [Nat.mul_one] at h9
     rw[hao] at q3
     have hj0:(0:Int)<=(j:Int):=by omega
     have hjI:(j:Int)<(m:Int):=by omega
     have hb0:b<wr.heap.size:=cell_lt d0
     clear hv hvw
     go_wp2
     go_quiet (fail)
     have hbq:Below wo.heap.size wo (wr.drewN nq):=⟨hbo.os,hbo.tape,hbo.output,hbo.size,hbo.block⟩
     go_wp2
     go_roundw
     case rel=>exact⟨j+1,by omega,by go_num,hbq⟩
     case measure=>simp[intOf];omega
    ·have hjn:¬(j:Int)<(m:Int):=by omega
     go_wp2
     go_roundw
     case rel=>exact⟨k+1,by omega,by go_num,hbw⟩
     case measure=>simp[intOf];omega
  ·obtain⟨w2,rfl⟩:∃ w2:World,w2=wr:=⟨_,rfl⟩
   have HBw2:=hiD hbl
   have hkn:¬(k:Int)<(n1:Int):=by omega
   clear hbl hbl0
   go_wp2
   clear p1 p2 hkn hlt hk
   go_loopw [5] (fun i wr=>∃ k:Nat,k<=n2/\i=.int .i64 k/\Below w2.heap.size w2 wr) (fun i _=>n2-(intOf i).toNat)
   case atStart=>exact⟨0,Nat.zero_le _,rfl,Below.refl _ _⟩
   case round=>
    obtain⟨k,hk,rfl,hbl0⟩:=hrel
    have hbl:Below w.heap.size w wr:=below_blk HBw2.out hbl0
    have p1:=(hbl.cell (p:=⟨Dr,2,none⟩) hDl).trans HL2.out.ca
    have p2:=(hbl.cell (p:=⟨Dr,7,none⟩) hDl).trans HL2.out.cb
    by_cases hlt:k<n2
    ·obtain⟨gv,ov,gw,ow,ao,m,c,y,hav,haw,c1,c2,hkp⟩:=HL2.out.one hlt
     have HKP:=hiD hkp
     rw[hav] at p1
     rw[haw] at p2
     have p3:=(hbl.cell (p:=⟨gv,ov+k*1,none⟩) (cell_lt c1)).trans c1
     have p4:=(hbl.cell (p:=⟨gw,ow+k*1,none⟩) (cell_lt c2)).trans c2
     rw[Nat.mul_one] at p3 p4
     clear c1 c2 hkp
     have hk0:(0:Int)<=(k:Int):=by omega
     have hkI:(k:Int)<(n2:Int):=by omega
     have hmm:m<=9223372036854775807:=by rcases HKP.out with e|e<;>omega
     obtain⟨wo,rfl⟩:∃ wo:World,wo=wr:=⟨_,rfl⟩
     go_wp2
     go_loopw [6] (fun i wr=>∃ j:Nat,j<=m/\i=.int .i64 j/\Below wo.heap.size wo wr) (fun i _=>m-(intOf i).toNat)
     case atStart=>exact⟨0,Nat.zero_le _,rfl,Below.refl _ _⟩
     case round=>
      obtain⟨j,hj,rfl,hbo⟩:=hrel
      have q1:=(hbo.cell (p:=⟨Dr,2,none⟩) (cell_lt p1)).trans p1
      have q2:=(hbo.cell (p:=⟨Dr,7,none⟩) (cell_lt p2)).trans p2
      have q3:=(hbo.cell (p:=⟨gv,ov+k,none⟩) (cell_lt p3)).trans p3
      have q4:=(hbo.cell (p:=⟨gw,ow+k,none⟩) (cell_lt p4)).trans p4
      have hbw:Below w2.heap.size w2 wr:=below_blk hbl0 hbo
      by_cases hjt:j<m
      ·rcases HKP.out with e|⟨_,b,hao,hv⟩
       ·omega
       have hvw:=hv.grown (below_blk hbl hbo)
       have d0:wr.cell? ⟨b,j*3,none⟩=some (.int .i64 y):=kept_cell (a:=2) (k:=3) (fun _=>rfl) hvw hjt 0 (by omega) rfl
       have d1:wr.cell? ⟨b,j*3+1,none⟩=some (.int .i64 y):=kept_cell (a:=2) (k:=3) (fun _=>rfl) hvw hjt 1 (by omega) rfl
       have d2:wr.cell? ⟨b,j*3+2,none⟩=some (.slice none 0 0):=kept_cell (a:=2) (k:=3) (fun _=>rfl) hvw hjt 2 (by omega) rfl
       rw[hao] at q3
       have hj0:(0:Int)<=(j:Int):=by omega
       have hjI:(j:Int)<(m:Int):=by omega
       have hb0:b<wr.heap.size:=cell_lt d0
       clear hv hvw
       go_wp2
       go_quiet (fail)
       have hbq:Below wo.heap.size wo (wr.drewN nq):=⟨hbo.os,hbo.tape,hbo.output,hbo.size,hbo.block⟩
       go_wp2
       go_roundw
       case rel=>exact⟨j+1,by omega,by go_num,hbq⟩
       case measure=>simp[intOf];omega
      ·have hjn:¬(j:Int)<(m:Int):=by omega
       go_wp2
       go_roundw
       case rel=>exact⟨k+1,by omega,by go_num,hbw⟩
       case measure=>simp[intOf];omega
    ·obtain⟨w3,rfl⟩:∃ w3:World,w3=wr:=⟨_,rfl⟩
     have HBw3:=hiD hbl
     have hkn:¬(k:Int)<(n2:Int):=by omega
     clear hbl hbl0
     go_wp2
     clear p1 p2 hkn hlt hk
     go_loopw [7] (fun i wr=>∃ k:Nat,k<=n3/\i=.int .i64 k/\Below w3.heap.size w3 wr) (fun i _=>n3-(intOf i).toNat)
     case atStart=>exact⟨0,Nat.zero_le _,rfl,Below.refl _ _⟩
     case round=>
      obtain⟨k,hk,rfl,hbl0⟩:=hrel
      have hbl:Below w.heap.size w wr:=below_blk HBw3.out hbl0
      have p1:=(hbl.cell (p:=⟨Dr,3,none⟩) hDl).trans HL3.out.ca
      have p2:=(hbl.cell (p:=⟨Dr,8,none⟩) hDl).trans HL3.out.cb
      by_cases hlt:k<n3
      ·obtain⟨gv,ov,gw,ow,ao,m,c,y,hav,haw,c1,c2,hkp⟩:=HL3.out.one hlt
       have HKP:=hiD hkp
       rw[hav] at p1
       rw[haw] at p2
       have p3:=(hbl.cell (p:=⟨gv,ov+k*1,none⟩) (cell_lt c1)).trans c1
       have p4:=(hbl.cell (p:=⟨gw,ow+k*1,none⟩) (cell_lt c2)).trans c2
       rw[Nat.mul_one] at p3 p4
       clear c1 c2 hkp
       have hk0:(0:Int)<=(k:Int):=by omega
       have hkI:(k:Int)<(n3:Int):=by omega
       have hmm:m<=9223372036854775807:=by rcases HKP.out with e|e<;>omega
       obtain⟨wo,rfl⟩:∃ wo:World,wo=wr:=⟨_,rfl⟩
       go_wp2
       go_loopw [8] (fun i wr=>∃ j:Nat,j<=m/\i=.int .i64 j/\Below wo.heap.size wo wr) (fun i _=>m-(intOf i).toNat)
       case atStart=>exact⟨0,Nat.zero_le _,rfl,Below.refl _ _⟩
       case round=>
        obtain⟨j,hj,rfl,hbo⟩:=hrel
        have q1:=(hbo.cell (p:=⟨Dr,3,none⟩) (cell_lt p1)).trans p1
        have q2:=(hbo.cell (p:=⟨Dr,8,none⟩) (cell_lt p2)).trans p2
        have q3:=(hbo.cell (p:=⟨gv,ov+k,none⟩) (cell_lt p3)).trans p3
        have q4:=(hbo.cell (p:=⟨gw,ow+k,none⟩) (cell_lt p4)).trans p4
        have hbw:Below w3.heap.size w3 wr:=below_blk hbl0 hbo
        by_cases hjt:j<m
        ·rcases HKP.out with e|⟨_,b,hao,hv⟩
         ·omega
         have hvw:=hv.grown (below_blk hbl hbo)
         have d0:wr.cell? ⟨b,j*2,none⟩=some (.int .i64 y):=kept_cell (a:=3) (k:=2) (fun _=>rfl) hvw hjt 0 (by omega) rfl
         have d1:wr.cell? ⟨b,j*2+1,none⟩=some (.int .i64 y):=kept_cell (a:=3) (k:=2) (fun _=>rfl) hvw hjt 1 (by omega) rfl
         rw[hao] at q3
         have hj0:(0:Int)<=(j:Int):=by omega
         have hjI:(j:Int)<(m:Int):=by omega
         have hb0:b<wr.heap.size:=cell_lt d0
         clear hv hvw
         go_wp2
         go_quiet (fail)
         have hbq:Below wo.heap.size wo (wr.drewN nq):=⟨hbo.os,hbo.tape,hbo.output,hbo.size,hbo.block⟩
         go_wp2
         go_roundw
         case rel=>exact⟨j+1,by omega,by go_num,hbq⟩
         case measure=>simp[intOf];omega
        ·have hjn:¬(j:Int)<(m:Int):=by omega
         go_wp2
         go_roundw
         case rel=>exact⟨k+1,by omega,by go_num,hbw⟩
         case measure=>simp[intOf];omega
      ·obtain⟨w4,rfl⟩:∃ w4:World,w4=wr:=⟨_,rfl⟩
       have HBw4:=hiD hbl
       have hkn:¬(k:Int)<(n3:Int):=by omega
       clear hbl hbl0
       go_wp2
       go_ret
       exact⟨rfl,HBw4⟩
end
end Go.Proofs.YtffgpepngcnjeabGreat
