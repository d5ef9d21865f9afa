import Derived.Test.YtffgpepngcnjeabGreatSaa
import Derived.Laws.CopyOwn
namespace Go.Proofs.YtffgpepngcnjeabGreat
set_option maxRecDepth 100000
set_option maxHeartbeats 1000000
section
open Go.RowKit
variable {w wr w1 w2 W:World} {l:List Int} {b off B1 B2 k base B o1 d o2 g n:Nat} {v x:Value} {o p:Obj} {y:Int} {ao:OAd}
structure OpenInv (w:World) (id:Int) (l:List Int) (b off B1 B2:Nat) (k:Nat) (wr:World):Prop where
 r0:Row wr b off l
 r1:Row wr B1 0 (dgL id)
 r2:Row wr B2 0 (partL (fun j=>Mk.tnN (l.getD j 0) (7-Mk.dg id j).toNat) k)
 fr:Free wr B2 0 5
 bl:Below w.heap.size w wr
 n0:B2≠b
 n1:B2≠B1
 lo:w.heap.size<=B2
theorem OpenInv.step {id:Int} (h:OpenInv w id l b off B1 B2 k wr) (hk:k<5):
 OpenInv w id l b off B1 B2 (k+1) (wr.setCell ⟨B2,k,none⟩ (.int .i64 (Mk.tnN (l.getD k 0) (7-Mk.dg id k).toNat))):=by
 refine⟨h.r0.other (by simpa using h.n0) _,h.r1.other (by simpa using h.n1) _,?_,h.fr.set _ _,h.bl.setCell (by simpa using h.lo) _,h.n0,h.n1,h.lo⟩
 have:=h.r2.set (k:=k) (by rw[partL_len];exact hk) (Mk.tnN (l.getD k 0) (7-Mk.dg id k).toNat)
 rw[Nat.zero_add,partL_set (fun j=>Mk.tnN (l.getD j 0) (7-Mk.dg id j).toNat) k] at this
 exact this
theorem OpenInv.drew {id:Int} (h:OpenInv w id l b off B1 B2 k wr):OpenInv w id l b off B1 B2 k wr.drew:=
 ⟨h.r0,h.r1,h.r2,h.fr,h.bl.drew,h.n0,h.n1,h.lo⟩
theorem open_start {id:Int} (hl:l≠[]) (hr:Row w b off l) (hb1:Below w.heap.size w w1):
 OpenInv w id l b off w1.heap.size (w1.heap.size+1) 0 ((w1.alloc (.cells #[.int .i64 (Mk.d0 id),.int .i64 (Mk.d1 id),.int .i64 (Mk.d2 id),.int .i64 (Mk.lk id / 8),.int .i64 (Mk.lk id % 8)] 192)).alloc (.cells #[.int .i64 0,.int .i64 0,.int .i64 0,.int .i64 0,.int .i64 0] 192)):=by
 have hs1:=hb1.size
 have hlt:=hr.lt hl
 refine⟨((hr.grown hb1).alloc _).alloc _,(row_new w1 _ _ _ _ _ 192).alloc _,?_,?_,?_,by omega,by omega,by omega⟩
 ·have:=row_new (w1.alloc (.cells #[.int .i64 (Mk.d0 id),.int .i64 (Mk.d1 id),.int .i64 (Mk.d2 id),.int .i64 (Mk.lk id / 8),.int .i64 (Mk.lk id % 8)] 192)) 0 0 0 0 0 192
  rw[World.size_alloc] at this
  exact this
 ·intro j hj
  exact World.frozen?_alloc_at _ _ _ _ (by simp)
 ·exact(hb1.alloc hs1 _).alloc (by simp;omega) _
theorem opn_eq (id:Int) (l:List Int):Mk.opn id l=Mk.mixL 1 [Mk.tnN (l.getD 0 0) (7-Mk.dg id 0).toNat,Mk.tnN (l.getD 1 0) (7-Mk.dg id 1).toNat,Mk.tnN (l.getD 2 0) (7-Mk.dg id 2).toNat,Mk.tnN (l.getD 3 0) (7-Mk.dg id 3).toNat,Mk.tnN (l.getD 4 0) (7-Mk.dg id 4).toNat]:=rfl
theorem allM_bd (h:allM l=true) (k:Nat) (hk:k<l.length):0<=l.getD k 0/\l.getD k 0<99991:=by
 unfold allM at h
 rw[List.all_eq_true] at h
 have:=h _ (List.getElem_mem hk)
 rw[Mk.isM_iff] at this
 simpa [List.getD,hk] using this
theorem isS_iff (h:isS l=true):l.length=5/\allM l=true:=by
 simpa [isS] using h
theorem open_row (id:Int) (b off c:Nat) (l:List Int) (w:World) (hm:Mk.isM id=true) (hs:isS l=true) (hr:Row w b off l):
 Calls Tryz.prog 95 #[.int .i64 id,.slice (some ⟨b,off,none⟩) 5 c] w fun e w'=>e=.returned (.tuple #[.int .i64 (Mk.opn id l),.int .i64 0])/\Below w.heap.size w w':=by
 have hm':=(Mk.isM_iff id).1 hm
 obtain⟨h5,hall⟩:=isS_iff hs
 have HR:=hiD hr
 have H5:=hiD h5
 have HA:=hiD hall
 have hne:l≠[]:=by intro e;rw[e] at h5;simp at h5
 clear hr h5 hall
 go_enter Tryz.func95,Tryz.ntmps95
 go_wp2_with (first|(go_at_call 104;refine(is_any _ _).mono ?_;rintro e w' ⟨rfl,rfl⟩)|(go_at_call 149;refine(isSeal_any _ _ _ _ _ (Or.inr ⟨_,_,rfl,HR⟩) H5 (by omega)).mono ?_;rintro e w' ⟨rfl,rfl⟩)|(go_at_call 150;refine(digits_any _ _ hm'.1 hm'.2).mono ?_;rintro e w1 ⟨rfl,hb1⟩))
 have hinv:=open_start (id:=id) hne HR.out hb1
 have HI:Hid _:=hinv
 clear hinv hb1
 generalize hB1:w1.heap.size=B1 at *
 clear hB1
 go_loopw [8] (fun v wr=>∃ k:Nat,k<=5/\v=.int .i64 k/\OpenInv w id l b off B1 (B1+1) k wr) (fun v _=>5-(intOf v).toNat)
 case atStart=>exact⟨0,by omega,rfl,HI⟩
 case round=>
  obtain⟨k,hk5,rfl,hinv⟩:=hrel
  by_cases hlt:k<5
  ·have c0:wr.cell? ⟨b,off+k,none⟩=some (.int .i64 (l.getD k 0)):=hinv.r0 k (by rw[H5.out];exact hlt)
   have c1:wr.cell? ⟨B1,k,none⟩=some (.int .i64 (Mk.dg id k)):=by
    have:=hinv.r1 k (by simpa [dgL] using hlt);rw[Nat.zero_add,dgL_at id k hlt] at this;exact this
   obtain⟨v3,c3⟩:∃ v3,wr.cell? ⟨B1+1,k,none⟩=some v3:=by
    have:=hinv.r2 k (by rw[partL_len];exact hlt);rw[Nat.zero_add] at this;exact⟨_,this⟩
   have f3:wr.frozen? ⟨B1+1,k,none⟩=false:=by
    have:=hinv.fr k hlt;rw[Nat.zero_add] at this;exact this
   have bs:=allM_bd HA.out k (by rw[H5.out];exact hlt)
   have bd:=Mk.dg_bd id k
   have hw7:IntKind.i64.wrap (7-Mk.dg id k)=7-Mk.dg id k:=IntWalk.i64_in _ ⟨by omega,by omega⟩
   have hst:=hinv.drew.step hlt
   generalize l.getD k 0=x at c0 bs hst
   have HS:Hid _:=hst
   clear hst
   go_wp2
   go_region_with (go_at_call 128;refine(times_any _ _ _ (by omega) (by omega) (by omega) (by omega)).mono ?_;rintro e w' ⟨rfl,rfl⟩)
   all_goals go_wp2
   all_goals go_roundw
   all_goals first|exact⟨k+1,by omega,by go_num,HS⟩|(simp[intOf];omega)
  ·have hk:k=5:=by omega
   subst hk
   have r2:=hinv.r2
   rw[partL_all] at r2
   have t0:=Mk.tnN_bd _ (allM_bd HA.out 0 (by rw[H5.out];decide)).1 (allM_bd HA.out 0 (by rw[H5.out];decide)).2 (7-Mk.dg id 0).toNat
   have t1:=Mk.tnN_bd _ (allM_bd HA.out 1 (by rw[H5.out];decide)).1 (allM_bd HA.out 1 (by rw[H5.out];decide)).2 (7-Mk.dg id 1).toNat
   have t2:=Mk.tnN_bd _ (allM_bd HA.out 2 (by rw[H5.out];decide)).1 (allM_bd HA.out 2 (by rw[H5.out];decide)).2 (7-Mk.dg id 2).toNat
   have t3:=Mk.tnN_bd _ (allM_bd HA.out 3 (by rw[H5.out];decide)).1 (allM_bd HA.out 3 (by rw[H5.out];decide)).2 (7-Mk.dg id 3).toNat
   have t4:=Mk.tnN_bd _ (allM_bd HA.out 4 (by rw[H5.out];decide)).1 (allM_bd HA.out 4 (by rw[H5.out];decide)).2 (7-Mk.dg id 4).toNat
   have q0:wr.cell? ⟨B1+1,0,none⟩=some (.int .i64 (Mk.tnN (l.getD 0 0) (7-Mk.dg id 0).toNat)):=r2 0 (by simp)
   have q1:wr.cell? ⟨B1+1,1,none⟩=some (.int .i64 (Mk.tnN (l.getD 1 0) (7-Mk.dg id 1).toNat)):=r2 1 (by simp)
   have q2:wr.cell? ⟨B1+1,2,none⟩=some (.int .i64 (Mk.tnN (l.getD 2 0) (7-Mk.dg id 2).toNat)):=r2 2 (by simp)
   have q3:wr.cell? ⟨B1+1,3,none⟩=some (.int .i64 (Mk.tnN (l.getD 3 0) (7-Mk.dg id 3).toNat)):=r2 3 (by simp)
   have q4:wr.cell? ⟨B1+1,4,none⟩=some (.int .i64 (Mk.tnN (l.getD 4 0) (7-Mk.dg id 4).toNat)):=r2 4 (by simp)
   have HO:Hid _:=opn_eq id l
   generalize Mk.tnN (l.getD 0 0) (7-Mk.dg id 0).toNat=x0 at *
   generalize Mk.tnN (l.getD 1 0) (7-Mk.dg id 1).toNat=x1 at *
   generalize Mk.tnN (l.getD 2 0) (7-Mk.dg id 2).toNat=x2 at *
   generalize Mk.tnN (l.getD 3 0) (7-Mk.dg id 3).toNat=x3 at *
   generalize Mk.tnN (l.getD 4 0) (7-Mk.dg id 4).toNat=x4 at *
   clear r2
   go_wp2_with (go_at_call 129;refine(mixAll_any _ _ _ _ _ _ t0 t1 t2 t3 t4).mono ?_;rintro e w2 ⟨rfl,hb2⟩)
   go_ret2
   exact⟨by rw[HO.out];rfl,below_blk hinv.bl hb2⟩
theorem open_noSeal (id:Int) (ao:OAd) (n c:Nat) (l:List Int) (w:World) (hm:Mk.isM id=true) (hr:IntsAt w ao l) (hn:l.length=n) (hx:n<=9223372036854775807) (hs:isS l=false):
 Calls Tryz.prog 95 #[.int .i64 id,.slice ao n c] w fun e w'=>e=.returned (.tuple #[.int .i64 0,.int .i64 2])/\w=w':=by
 have HR:=hiD hr
 have HN:=hiD hn
 clear hr hn
 go_enter Tryz.func95,Tryz.ntmps95
 go_wp2_with (first|(go_at_call 104;refine(is_any _ _).mono ?_;rintro e w' ⟨rfl,rfl⟩)|(go_at_call 149;refine(isSeal_any _ _ _ _ _ HR HN (by omega)).mono ?_;rintro e w' ⟨rfl,rfl⟩))
 go_ret2
 exact⟨rfl,rfl⟩
theorem open_yes (id:Int) (ao:OAd) (n c:Nat) (l:List Int) (w:World) (hm:Mk.isM id=true) (hr:IntsAt w ao l) (hn:l.length=n) (hs:isS l=true):
 Calls Tryz.prog 95 #[.int .i64 id,.slice ao n c] w fun e w'=>e=.returned (.tuple #[.int .i64 (Mk.opn id l),.int .i64 0])/\Below w.heap.size w w':=by
 have h5:=(isS_iff hs).1
 obtain rfl:n=5:=by omega
 rcases hr with rfl|⟨b,off,rfl,hr⟩
 ·simp at h5
 ·exact open_row id b off c l w hm hs hr
theorem range_snoc (f:Nat->Int) (k:Nat):(List.range k).map f++[f k]=(List.range (k+1)).map f:=by
 rw[List.range_succ,List.map_append];rfl
theorem range_len (f:Nat->Int) (k:Nat):((List.range k).map f).length=k:=by simp
theorem mixable_marks (h:∀ x∈l,0<=x/\x<99991):Mixable l:=by
 intro j hj
 have:=h _ (List.getElem_mem hj)
 simp only[List.getD,List.getElem?_eq_getElem hj,Option.getD_some]
 omega
theorem to_any (s b i:Int) (w:World) (hk:Mk.isK s b i=true):
 Calls Tryz.prog 156 #[.int .i64 s,.int .i64 b,.int .i64 i] w fun e w'=>e=.returned (.int .i64 (Mk.adr s b i))/\Below w.heap.size w w':=by
 generalize hB:w.heap.size=B
 have HB:=hiD hB
 clear hB
 go_enter Tryz.func156,Tryz.ntmps156
 go_wp2
 go_loopw [7,8] (fun v j wr=>∃ k:Nat,k<=5/\j=.int .i64 k/\OwnInts wr B v ((List.range k).map fun j=>Mk.tnN (Mk.sec s b i j) 7)/\Below B w wr) (fun _ j _=>5-(intOf j).toNat)
 case atStart=>exact⟨0,by omega,rfl,OwnInts.nil _ _,Below.refl _ _⟩
 case round=>
  obtain⟨k,hk5,rfl,hown,hbl⟩:=hrel
  have hsz:=hbl.size
  rw[HB.out] at hsz
  by_cases hlt:k<5
  ·have bs:=Mk.sec_bd s b i k
   have ek:((k:Int)).toNat=k:=Int.toNat_natCast k
   go_wp2_with fail
   refine(secret_any _ _ _ _ _ hk (by omega) (by omega)).mono ?_
   rintro e w1 ⟨rfl,hb1⟩
   rw[ek]
   clear ek
   have hown1:=hown.grown hb1
   have hbl1:=hbl.trans (hb1.mono hsz)
   have hsz1:B<=w1.heap.size:=leT hsz hb1.size
   clear hown hbl hb1
   go_wp2_with (first|(go_at_call 198;refine(turned_any _ _ _ (by omega) (by omega) (by omega) (by omega)).mono ?_;rintro e w' ⟨rfl,rfl⟩)|(at_builtin;refine wpList_app1 w1 rfl _ _ rfl B _ _ _ (by rfl) (by rfl) hown1 hsz1 (by rw[range_len];omega) ?_;intro v' w2 hown2 hb2))
   go_roundw
   case rel=>exact⟨k+1,by omega,by go_num,by rw[<-range_snoc];exact hown2,hbl1.trans hb2⟩
   case measure=>simp[intOf];omega
  ·have hk:k=5:=by omega
   subst hk
   obtain⟨ao,c,rfl,hat,_⟩:=hown.slice
   rw[range_len]
   go_wp2_with (go_at_call 199;refine(mixed_any _ _ _ _ _ _ (by omega) (by omega) hat (range_len _ _) (mixable_marks ?_) (by omega)).mono ?_;intro x hx;obtain⟨j,_,rfl⟩:=List.mem_map.1 hx;exact Mk.tnN_bd _ (Mk.sec_bd s b i j).1 (Mk.sec_bd s b i j).2 _;rintro e w' ⟨rfl,rfl⟩)
   go_ret
   exact⟨rfl,hbl⟩
theorem own3 (w:World) (base:Nat) (a b c:Int) (hb:base<=w.heap.size):OwnInts (w.alloc (.cells #[.int .i64 a,.int .i64 b,.int .i64 c] 3)) base (.slice (some ⟨w.heap.size,0,none⟩) 3 3) [a,b,c]:=by
 refine⟨rfl,Or.inr ⟨w.heap.size,3,#[.int .i64 a,.int .i64 b,.int .i64 c],rfl,hb,?_,leR,by unfold maxLen;omega,rfl,rfl⟩⟩
 show(w.heap.push _)[w.heap.size]?=_
 rw[Array.getElem?_push_size]
theorem dig0 (id:Int):id % 512 / 64=Mk.d0 id:=by unfold Mk.d0;omega
theorem dig1 (id:Int):id % 64 / 8=Mk.d1 id:=by unfold Mk.d1;omega
theorem dg_list (id:Int):([id % 512 / 64,id % 64 / 8,id % 8]++[(21-id % 512 / 64-id % 64 / 8-id % 8) / 8])++[(21-id % 512 / 64-id % 64 / 8-id % 8) % 8]=dgL id:=by
 unfold dgL Mk.dg Mk.lk
 rw[dig0,dig1]
 rfl
theorem own_lower (h:OwnInts w base v l) (hB:B<=base):OwnInts w B v l:=by
 obtain⟨h1,h|⟨g,cap,cur,rfl,hbg,hg⟩⟩:=h
 ·exact⟨h1,Or.inl h⟩
 ·exact⟨h1,Or.inr ⟨g,cap,cur,rfl,leT hB hbg,hg⟩⟩
theorem le_one (w:World) (o:Obj):w.heap.size<=(w.alloc o).heap.size:=by rw[World.size_alloc];omega
theorem le_two (w:World) (o p:Obj):w.heap.size<=((w.alloc o).alloc p).drew.heap.size:=by rw[World.size_drew,World.size_alloc,World.size_alloc];omega
theorem cell_two (w:World) (o:Obj) (v:Value):((w.alloc o).alloc (.cells #[v] 3)).drew.cell? ⟨w.heap.size+1,0,none⟩=some v:=by
 rw[World.cell?_drew,World.cell?_alloc_at _ _ _ _ (by rw[World.size_alloc])]
 rfl
theorem hsz1 (h:w.heap.size=B) (hl:Below B ((w.alloc o).alloc p).drew w1):B<=w1.heap.size:=by
 have:=hl.size
 rw[World.size_drew,World.size_alloc,World.size_alloc] at this
 omega
theorem rDigits_any (id:Int) (w:World) (h0:0<=id) (h1:id<99991):
 Calls Tryz.prog 221 #[.int .i64 id] w fun e w'=>∃ v,e=.returned v/\OwnInts w' w.heap.size v (dgL id)/\Below w.heap.size w w':=by
 have g1:IntKind.i64.wrap (21-id % 512 / 64)=21-id % 512 / 64:=IntWalk.i64_in _ ⟨by omega,by omega⟩
 have g2:IntKind.i64.wrap (21-id % 512 / 64-id % 64 / 8)=21-id % 512 / 64-id % 64 / 8:=IntWalk.i64_in _ ⟨by omega,by omega⟩
 have g3:IntKind.i64.wrap (21-id % 512 / 64-id % 64 / 8-id % 8)=21-id % 512 / 64-id % 64 / 8-id % 8:=IntWalk.i64_in _ ⟨by omega,by omega⟩
 go_enter Tryz.func221,Tryz.ntmps221
 go_wp2
 go_region
 all_goals clear g1 g2 g3
 have H1:Hid _:=dg_list id
 have b0:0<=id % 512 / 64/\id % 512 / 64<=7:=by omega
 have b1:0<=id % 64 / 8/\id % 64 / 8<=7:=by omega
 have b2:0<=id % 8/\id % 8<=7:=by omega
 generalize id % 512 / 64=x0 at *
 generalize id % 64 / 8=x1 at *
 generalize id % 8=x2 at *
 have ho:=own3 w w.heap.size x0 x1 x2 leR
 have hl:Below w.heap.size w (w.alloc (.cells #[.int .i64 x0,.int .i64 x1,.int .i64 x2] 3)):=(Below.refl _ _).alloc leR _
 go_wp2_with (first|(at_builtin;refine wpList_app1g _ rfl (.tmp 26) (.tmp 29) rfl w.heap.size (w.heap.size+1) 1 (.slice (some ⟨w.heap.size,0,none⟩) 3 3) [x0,x1,x2] ((21-x0-x1-x2) / 8) ?_ ?_ ?_ ?_ ?_ ?_ ?_;rfl;rfl;exact(ho.alloc _).drew;exact cell_two _ _ _;exact le_two _ _ _;exact(by decide:3<=1000000);intro v1 w1 ho1 hl1;have hs1:w.heap.size<=w1.heap.size:=hsz1 rfl hl1)|(at_builtin;refine wpList_app1g _ rfl (.tmp 31) (.tmp 34) rfl w.heap.size w1.heap.size 1 v1 ([x0,x1,x2]++[(21-x0-x1-x2) / 8]) ((21-x0-x1-x2) % 8) ?_ ?_ ?_ ?_ ?_ ?_ ?_;rfl;rfl;exact ho1.alloc _;exact World.cell?_alloc_new _ _ _ _;exact leT hs1 (le_one _ _);exact(by decide:4<=1000000);intro v2 w2 ho2 hl2))
 go_ret
 refine⟨_,rfl,?_,?_⟩
 ·rw[H1.out] at ho2
  exact ho2
 ·exact(((((hl.alloc (le_one _ _) _).drew).trans hl1).alloc hs1 _).trans hl2)
theorem sealL_eq (s b i id:Int):(List.range 5).map (fun j=>Mk.tnN (Mk.sec s b i j) (Mk.dg id j).toNat)=Mk.sealL s b i id:=rfl
theorem sealed_any (s b i id:Int) (w:World) (hk:Mk.isK s b i=true) (hm:Mk.isM id=true):
 Calls Tryz.prog 211 #[.int .i64 s,.int .i64 b,.int .i64 i,.int .i64 id] w fun e w'=>∃ v,e=.returned v/\OwnInts w' w.heap.size v (Mk.sealL s b i id)/\Below w.heap.size w w':=by
 have hm':=(Mk.isM_iff id).1 hm
 go_enter Tryz.func211,Tryz.ntmps211
 go_wp2_with fail
 refine(rDigits_any _ _ hm'.1 hm'.2).mono ?_
 rintro e w1 ⟨vd,rfl,hd,hb1⟩
 obtain⟨ad,cd,rfl,hat,_⟩:=hd.slice
 obtain⟨bd,od,rfl,hrow⟩:∃ b off,ad=some ⟨b,off,none⟩/\Row w1 b off (dgL id):=by
  rcases hat with h|h
  ·simp[dgL] at h
  ·exact h
 have hbd:=hrow.lt (by simp[dgL])
 have hs1:=hb1.size
 rw[show(dgL id).length=5 from rfl]
 clear hd hat
 go_wp2
 go_loopw [10,11] (fun v j wr=>∃ k:Nat,k<=5/\j=.int .i64 k/\OwnInts wr w1.heap.size v ((List.range k).map fun j=>Mk.tnN (Mk.sec s b i j) (Mk.dg id j).toNat)/\Below w1.heap.size w1 wr) (fun _ j _=>5-(intOf j).toNat)
 case atStart=>exact⟨0,by omega,rfl,OwnInts.nil _ _,Below.refl _ _⟩
 case round=>
  obtain⟨k,hk5,rfl,hown,hbl⟩:=hrel
  have hsz:=hbl.size
  by_cases hlt:k<5
  ·have bs:=Mk.sec_bd s b i k
   have bg:=Mk.dg_bd id k
   have ek:((k:Int)).toNat=k:=Int.toNat_natCast k
   go_wp2_with fail
   refine(secret_any _ _ _ _ _ hk (by omega) (by omega)).mono ?_
   rintro e w2 ⟨rfl,hb2⟩
   rw[ek]
   clear ek
   have hown2:=hown.grown hb2
   have hbl2:=hbl.trans (hb2.mono hsz)
   have hsz2:=hbl2.size
   have c1:w2.cell? ⟨bd,od+k,none⟩=some (.int .i64 (Mk.dg id k)):=by
    have:=(hrow.below hbl2 hbd) k (by simpa [dgL] using hlt);rw[dgL_at id k hlt] at this;exact this
   clear hown hbl hb2
   go_wp2_with (first|(go_at_call 198;refine(turned_any _ _ _ (by omega) (by omega) (by omega) (by omega)).mono ?_;rintro e w' ⟨rfl,rfl⟩)|(at_builtin;refine wpList_app1 w2 rfl _ _ rfl w1.heap.size _ _ _ (by rfl) (by rfl) hown2 hsz2 (by rw[range_len];omega) ?_;intro v' w3 hown3 hb3))
   go_roundw
   case rel=>exact⟨k+1,by omega,by go_num,by rw[<-range_snoc];exact hown3,hbl2.trans hb3⟩
   case measure=>simp[intOf];omega
  ·have hk:k=5:=by omega
   subst hk
   go_wp2
   go_ret
   refine⟨_,rfl,?_,hb1.trans (hbl.mono hs1)⟩
   rw[sealL_eq] at hown
   exact own_lower hown hs1
theorem rIsSeal_row (b off c:Nat) (l:List Int) (w:World) (hr:Row w b off l) (h5:l.length=5):
 Calls Tryz.prog 224 #[.slice (some ⟨b,off,none⟩) 5 c] w fun e w'=>e=.returned (.bool (allM l))/\w=w':=by
 have HR:=hiD hr
 have HN:=hiD h5
 clear hr h5
 go_enter Tryz.func224,Tryz.ntmps224
 go_wp2
 go_loop [3] (fun i=>∃ k:Nat,k<=5/\i=.int .i64 k/\Hid (allM (l.take k)=true)) (fun i=>5-(intOf i).toNat)
 case atStart=>exact⟨0,Nat.zero_le _,rfl,by show allM _=true;simp[allM]⟩
 case round=>
  obtain⟨k,hk,rfl,hall⟩:=hrel
  by_cases hlt:k<5
  ·have hc:=HR.out k (by rw[HN.out];exact hlt)
   generalize hx:l.getD k 0=x at hc
   have HX:=hiD hx
   clear hx
   cases hmk:Mk.isM x
   ·go_wp2_with (go_at_call 105;refine(rMark_any _ _).mono ?_;rintro e w' ⟨rfl,rfl⟩)
    go_ret
    exact⟨ret_bool (allM_no l k (by rw[HN.out];exact hlt) (by rw[HX.out];exact hmk)).symm,rfl⟩
   ·go_wp2_with (go_at_call 105;refine(rMark_any _ _).mono ?_;rintro e w' ⟨rfl,rfl⟩)
    go_round
    case rel=>exact⟨k+1,by omega,by go_num,by show allM _=true;rw[allM_snoc l k (by rw[HN.out];exact hlt),hall.out,HX.out,hmk];rfl⟩
    case measure=>simp[intOf];omega
  ·go_wp2
   go_ret
   exact⟨ret_bool (by rw[<-hall.out,List.take_of_length_le (by rw[HN.out];omega)]),rfl⟩
theorem rIsSeal_not (ao:OAd) (n c:Nat) (w:World) (h5:n≠5):
 Calls Tryz.prog 224 #[.slice ao n c] w fun e w'=>e=.returned (.bool false)/\w=w':=by
 have h5':((n:Int) !=5)=true:=by rw[bne_iff_ne];omega
 go_enter Tryz.func224,Tryz.ntmps224
 go_wp2
 go_ret
 exact⟨rfl,rfl⟩
theorem rIsSeal_any (ao:OAd) (n c:Nat) (l:List Int) (w:World) (hr:IntsAt w ao l) (hn:l.length=n):
 Calls Tryz.prog 224 #[.slice ao n c] w fun e w'=>e=.returned (.bool (isS l))/\w=w':=by
 by_cases h5:n=5
 ·subst h5
  have e:isS l=allM l:=by unfold isS;rw[hn];rfl
  rw[e]
  rcases hr with rfl|⟨b,off,rfl,hr⟩
  ·simp at hn
  ·exact rIsSeal_row b off c l w hr hn
 ·have e:isS l=false:=by unfold isS;rw[hn,decide_eq_false h5];rfl
  rw[e]
  exact rIsSeal_not ao n c w h5
theorem cell_oned (w:World) (v:Value):(w.alloc (.cells #[v] 3)).drew.cell? ⟨w.heap.size,0,none⟩=some v:=by
 rw[World.cell?_drew,World.cell?_alloc_new]
 rfl
theorem le_oned (w:World) (o:Obj):w.heap.size<=(w.alloc o).drew.heap.size:=by rw[World.size_drew,World.size_alloc];omega
theorem keep_two {y:Value} (hb:Below B (wr.alloc o).drew w2) (c0:wr.cell? ⟨b,o1,none⟩=some x) (c1:wr.cell? ⟨d,o2,none⟩=some y) (h0:b<B) (h1:d<B):
 w2.cell? ⟨b,o1,none⟩=some x/\w2.cell? ⟨d,o2,none⟩=some y:=by
 have l0:=cell_lt c0
 have l1:=cell_lt c1
 refine⟨(hb.cell (p:=⟨b,o1,none⟩) h0).trans ?_,(hb.cell (p:=⟨d,o2,none⟩) h1).trans ?_⟩
 ·rw[World.cell?_drew,World.cell?_alloc_lt _ _ _ l0];exact c0
 ·rw[World.cell?_drew,World.cell?_alloc_lt _ _ _ l1];exact c1
theorem opened_row (id:Int) (b off c:Nat) (l:List Int) (w:World) (hm:Mk.isM id=true) (hs:isS l=true) (hr:Row w b off l):
 Calls Tryz.prog 225 #[.int .i64 id,.slice (some ⟨b,off,none⟩) 5 c] w fun e w'=>e=.returned (.int .i64 (Mk.opn id l))/\Below w.heap.size w w':=by
 have hm':=(Mk.isM_iff id).1 hm
 obtain⟨h5,hall⟩:=isS_iff hs
 have HR:=hiD hr
 have H5:=hiD h5
 have HA:=hiD hall
 have hne:l≠[]:=by intro e;rw[e] at h5;simp at h5
 have hblt:=hr.lt hne
 clear hr h5 hall
 go_enter Tryz.func225,Tryz.ntmps225
 go_wp2_with fail
 refine(rDigits_any _ _ hm'.1 hm'.2).mono ?_
 rintro e w1 ⟨vd,rfl,hd,hb1⟩
 obtain⟨ad,cd,rfl,hat,_⟩:=hd.slice
 obtain⟨bd,od,rfl,hrow⟩:∃ b off,ad=some ⟨b,off,none⟩/\Row w1 b off (dgL id):=by
  rcases hat with h|h
  ·simp[dgL] at h
  ·exact h
 have hbd:=hrow.lt (by simp[dgL])
 have hs1:=hb1.size
 rw[show(dgL id).length=5 from rfl]
 clear hd hat
 go_wp2
 go_loopw [6,7] (fun v j wr=>∃ k:Nat,k<=5/\j=.int .i64 k/\OwnInts wr w1.heap.size v ((List.range k).map fun j=>Mk.tnN (l.getD j 0) (7-Mk.dg id j).toNat)/\Below w1.heap.size w1 wr) (fun _ j _=>5-(intOf j).toNat)
 case atStart=>exact⟨0,by omega,rfl,OwnInts.nil _ _,Below.refl _ _⟩
 case round=>
  obtain⟨k,hk5,rfl,hown,hbl⟩:=hrel
  have hsz:=hbl.size
  by_cases hlt:k<5
  ·have c0:wr.cell? ⟨b,off+k,none⟩=some (.int .i64 (l.getD k 0)):=((HR.out.grown hb1).below hbl (by omega)) k (by rw[H5.out];exact hlt)
   have c1:wr.cell? ⟨bd,od+k,none⟩=some (.int .i64 (Mk.dg id k)):=by
    have:=(hrow.below hbl hbd) k (by simpa [dgL] using hlt);rw[dgL_at id k hlt] at this;exact this
   have bs:=allM_bd HA.out k (by rw[H5.out];exact hlt)
   have bg:=Mk.dg_bd id k
   have hw7:IntKind.i64.wrap (7-Mk.dg id k)=7-Mk.dg id k:=IntWalk.i64_in _ ⟨by omega,by omega⟩
   have HSn:Hid _:=range_snoc (fun j=>Mk.tnN (l.getD j 0) (7-Mk.dg id j).toNat) k
   have hrl:=range_len (fun j=>Mk.tnN (l.getD j 0) (7-Mk.dg id j).toNat) k
   generalize l.getD k 0=x at c0 bs HSn
   have hn0:=World.new_ne wr ⟨b,off+k,none⟩ c0
   have hn1:=World.new_ne wr ⟨bd,od+k,none⟩ c1
   have k0:(0:Int)<=(k:Int):=by omega
   have k1:(k:Int)<5:=by omega
   go_wp2
   go_region_held3 (fun w'=>w'.cell? ⟨b,off+k,none⟩=some (.int .i64 x)/\w'.cell? ⟨bd,od+k,none⟩=some (.int .i64 (Mk.dg id k))) (first|go_keep|exact keep_two (by assumption) c0 c1 (by omega) hbd) (first|(go_at_call 198;refine(turned_any _ _ _ (by omega) (by omega) (by omega) (by omega)).mono ?_;rintro e w' ⟨rfl,rfl⟩)|(refine step_app1g _ ?_ (.tmp 14) (.tmp 25) ?_ w1.heap.size wr.heap.size 1 u6 ((List.range k).map fun j=>Mk.tnN (l.getD j 0) (7-Mk.dg id j).toNat) (Mk.tnN x (7-Mk.dg id k).toNat) ?_ ?_ ?_ ?_ ?_ ?_ ?_;rfl;rfl;rfl;rfl;exact(hown.alloc _).drew;exact cell_oned _ _;exact leT hsz (le_oned _ _);(rw[hrl];omega);intro v' w2 hown2 hb2))
   all_goals
    go_wp2
    go_roundw
    case rel=>exact⟨k+1,by omega,by go_num,by rw[<-HSn.out];exact hown2,((hbl.alloc hsz _).drew).trans hb2⟩
    case measure=>simp[intOf];omega
  ·have hk:k=5:=by omega
   subst hk
   obtain⟨ao,c,rfl,hat,_⟩:=hown.slice
   rw[range_len]
   go_wp2_with fail
   refine(mixed_any _ _ _ _ _ _ (by omega) (by omega) hat (range_len _ _) (mixable_marks ?_) (by omega)).mono ?_
   ·intro x hx
    obtain⟨j,hj,rfl⟩:=List.mem_map.1 hx
    have hb:=allM_bd HA.out j (by rw[H5.out];simpa using hj)
    exact Mk.tnN_bd _ hb.1 hb.2 _
   rintro e w' ⟨rfl,rfl⟩
   go_wp2
   go_ret
   exact⟨rfl,hb1.trans (hbl.mono hs1)⟩
theorem opened_any (id:Int) (ao:OAd) (n c:Nat) (l:List Int) (w:World) (hm:Mk.isM id=true) (hr:IntsAt w ao l) (hn:l.length=n) (hs:isS l=true):
 Calls Tryz.prog 225 #[.int .i64 id,.slice ao n c] w fun e w'=>e=.returned (.int .i64 (Mk.opn id l))/\Below w.heap.size w w':=by
 have h5:=(isS_iff hs).1
 obtain rfl:n=5:=by omega
 rcases hr with rfl|⟨b,off,rfl,hr⟩
 ·simp at h5
 ·exact opened_row id b off c l w hm hs hr
theorem rOpen_yes (id:Int) (ao:OAd) (n c:Nat) (l:List Int) (w:World) (hm:Mk.isM id=true) (hr:IntsAt w ao l) (hn:l.length=n) (hs:isS l=true):
 Calls Tryz.prog 223 #[.int .i64 id,.slice ao n c] w fun e w'=>e=.returned (.tuple #[.int .i64 (Mk.opn id l),.int .i64 0])/\Below w.heap.size w w':=by
 have HN:=hiD hn
 clear hn
 go_enter Tryz.func223,Tryz.ntmps223
 go_wp2_with (first|(go_at_call 105;refine(rMark_any _ _).mono ?_;rintro e w' ⟨rfl,rfl⟩)|(go_at_call 224;refine(rIsSeal_any _ _ _ l _ hr HN).mono ?_;rintro e w' ⟨rfl,rfl⟩)|(go_at_call 225;refine(opened_any _ _ _ _ l _ hm hr HN hs).mono ?_;rintro e w' ⟨rfl,hb⟩))
 go_ret2
 exact⟨rfl,hb⟩
theorem rOpen_noSeal (id:Int) (ao:OAd) (n c:Nat) (l:List Int) (w:World) (hm:Mk.isM id=true) (hr:IntsAt w ao l) (hn:l.length=n) (hs:isS l=false):
 Calls Tryz.prog 223 #[.int .i64 id,.slice ao n c] w fun e w'=>e=.returned (.tuple #[.int .i64 0,.int .i64 2])/\w=w':=by
 have HN:=hiD hn
 clear hn
 go_enter Tryz.func223,Tryz.ntmps223
 go_wp2_with (first|(go_at_call 105;refine(rMark_any _ _).mono ?_;rintro e w' ⟨rfl,rfl⟩)|(go_at_call 224;refine(rIsSeal_any _ _ _ l _ hr HN).mono ?_;rintro e w' ⟨rfl,rfl⟩))
 go_ret2
 exact⟨rfl,rfl⟩
theorem num_any (x:Int) (w:World):
 Calls Tryz.prog 64 #[.int .i64 x] w fun e w'=>e=.returned (.int .i64 x)/\w=w':=by
 go_enter Tryz.func64,Tryz.ntmps64
 go_wp2
 go_ret
 exact⟨rfl,rfl⟩
theorem sameInts_nil (ao bo:OAd) (c d:Nat) (w:World):
 Calls Tryz.prog 212 #[.slice ao 0 c,.slice bo 0 d] w fun e w'=>e=.returned (.bool true)/\w=w':=by
 go_enter Tryz.func212,Tryz.ntmps212
 go_wp2
 refine wp_loop_rounds 1 ?_
 rw[rounds_succ]
 go_wp2
 go_ret
 exact⟨rfl,rfl⟩
theorem sameInts_row (a1 o1 a2 o2 n c d:Nat) (l:List Int) (w:World) (h1:Row w a1 o1 l) (h2:Row w a2 o2 l) (hn:l.length=n) (hm:n<=9223372036854775807):
 Calls Tryz.prog 212 #[.slice (some ⟨a1,o1,none⟩) n c,.slice (some ⟨a2,o2,none⟩) n d] w fun e w'=>e=.returned (.bool true)/\Below w.heap.size w w':=by
 have H1:=hiD h1
 have H2:=hiD h2
 have HN:=hiD hn
 clear h1 h2 hn
 go_enter Tryz.func212,Tryz.ntmps212
 go_wp2
 go_loopw [5] (fun i wr=>∃ k:Nat,k<=n/\i=.int .i64 k/\Below w.heap.size w wr) (fun i _=>n-(intOf i).toNat)
 case atStart=>exact⟨0,Nat.zero_le _,rfl,Below.refl _ _⟩
 case round=>
  obtain⟨k,hk,rfl,hbl⟩:=hrel
  by_cases hlt:k<n
  ·have c1:=(H1.out.grown hbl) k (by rw[HN.out];exact hlt)
   have c2:=(H2.out.grown hbl) k (by rw[HN.out];exact hlt)
   generalize l.getD k 0=x at c1 c2
   go_wp2
   go_region
   all_goals
    go_wp2
    go_roundw
    case rel=>exact⟨k+1,by omega,by go_num,hbl.drew⟩
    case measure=>simp[intOf];omega
  ·go_wp2
   go_ret
   exact⟨rfl,hbl⟩
theorem sameInts_any (ao bo:OAd) (n c d:Nat) (l:List Int) (w:World) (h1:IntsAt w ao l) (h2:IntsAt w bo l) (hn:l.length=n) (hm:n<=9223372036854775807):
 Calls Tryz.prog 212 #[.slice ao n c,.slice bo n d] w fun e w'=>e=.returned (.bool true)/\Below w.heap.size w w':=by
 rcases h1 with rfl|⟨a1,o1,rfl,h1⟩
 ·have h0:n=0:=by rw[<-hn];rfl
  subst h0
  refine(sameInts_nil ao bo c d w).mono ?_
  rintro e w' ⟨rfl,rfl⟩
  exact⟨rfl,Below.refl _ _⟩
 ·rcases h2 with rfl|⟨a2,o2,rfl,h2⟩
  ·have h0:n=0:=by rw[<-hn];rfl
   subst h0
   refine(sameInts_nil _ _ c d w).mono ?_
   rintro e w' ⟨rfl,rfl⟩
   exact⟨rfl,Below.refl _ _⟩
  ·exact sameInts_row a1 o1 a2 o2 n c d l w h1 h2 hn hm
theorem made_at (n j:Nat) (h:j<n):(madeCells #[Value.int .i64 0] n)[j]?=some (.int .i64 0):=by
 simp only[madeCells,Array.getElem?_map]
 rw[Array.getElem?_eq_getElem (by simpa using h)]
 simp[Nat.mod_one]
theorem row_spliced {t:TypeId} (hn:l.length=n)
 (h:w.heap[g]?=some (.cells (splice (madeCells #[Value.int .i64 0] (n+1)).toList 0 (l.map (Value.int .i64))).toArray t)):Row w g 0 (l++[0])/\Free w g 0 (n+1):=by
 constructor
 ·intro j hj
  rw[List.length_append] at hj
  simp only[World.cell?,h,Nat.zero_add,splice,List.take_zero,List.nil_append,List.length_map,hn]
  simp only[List.getElem?_toArray,List.getD]
  by_cases hlt:j<n
  ·simp only[List.getElem?_append_left (show j<(l.map (Value.int .i64)).length by rw[List.length_map];omega),List.getElem?_append_left (show j<l.length by omega)]
   simp[hn,hlt]
  ·have e:j=n:=by simp at hj;omega
   subst e
   rw[List.getElem?_append_right (by rw[List.length_map];omega),List.getElem?_append_right (by omega)]
   rw[List.length_map,hn,Nat.sub_self,List.getElem?_drop,Nat.add_zero,Array.getElem?_toList,made_at _ _ (by omega)]
   simp
 ·intro j hj
  simp[World.frozen?,h]
theorem sizeInfo3:Option.map (fun x:TypeInfo=>x.size) (Tryz.prog.info? 3)=some 1:=by kernel_rfl
theorem make_ints (n:Nat) (hn:n<=17592186044416):∀ u:World,(Instr.makeSlice 44 (.int .i64 ((n:Int)+1)) (.int .i64 ((n:Int)+1))).run Tryz.prog u =
 .ok (.slice (some ⟨u.heap.size,0,none⟩) (n+1) (n+1)) (u.alloc (.cells (madeCells #[.int .i64 0] (n+1)) 3)):=fun u=>by
 obtain⟨i0,hi,hz0,hz1,hz2⟩:=info_parts info3
 have h:=run_make (P:=Tryz.prog) u 44 3 i0 (.int .i64 0) Tryz.underlying44 hi hz0 .i64 .i64 ((n:Int)+1) ((n:Int)+1) (by omega) (Int.le_refl _) (by rw[hz2];omega) (by omega)
 have e:((n:Int)+1).toNat=n+1:=by omega
 rw[e] at h
 simpa [hz1,Value.cells] using h
theorem copy_src (h:IntsAt w ao l) (hW:Below w.heap.size w W) (g:Nat):0<(l.map (Value.int .i64)).length->
 some (⟨g,0,none⟩:Addr)=some ⟨g,0,none⟩/\∃ ad,ao=some ad/\∀ (j:Nat) (v:Value),(l.map (Value.int .i64))[j]?=some v->W.cell? (ad.add j)=some v:=by
 intro hp
 refine⟨rfl,?_⟩
 rcases h with rfl|⟨b,off,rfl,hr⟩
 ·simp at hp
 ·refine⟨_,rfl,?_⟩
  intro j v hj
  have hlt:j<l.length:=by
   apply Classical.byContradiction
   intro hc
   rw[List.getElem?_eq_none (by rw[List.length_map];omega)] at hj
   cases hj
  have:=(hr.grown hW) j hlt
  rw[List.getElem?_map,List.getElem?_eq_getElem hlt] at hj
  simp at hj
  rw[<-hj]
  rw[Go.WideShapes.add_plain]
  simpa [List.getD,hlt] using this
theorem ints_one (l:List Int):∀ v∈l.map (Value.int .i64),v.oneCell'=true:=by
 intro v hv
 obtain⟨x,_,rfl⟩:=List.mem_map.1 hv
 rfl
theorem row_last (hn:l.length=n) (h:Row w g 0 (l++[0])):Row (w.setCell ⟨g,n,none⟩ (.int .i64 (-5))) g 0 (l++[-5]):=by
 have:=h.set (k:=n) (by simp;omega) (-5)
 rw[Nat.zero_add] at this
 have e:(l++[0]).set n (-5)=l++[-5]:=by
  subst hn
  simp
 rw[e] at this
 exact this
theorem heap_made (w:World) (a:Array Value) (t:TypeId):(w.alloc (.cells a t)).heap[w.heap.size]?=some (.cells a.toList.toArray t):=by
 show(w.heap.push _)[w.heap.size]?=_
 rw[Array.getElem?_push_size]
theorem len_made (l:List Int) (n:Nat) (h:l.length=n):(l.map (Value.int .i64)).length=n.min (n+1):=by
 rw[List.length_map,h]
 exact(Nat.min_eq_left (by omega)).symm
theorem room_made (l:List Int) (n:Nat) (h:l.length=n):0+(l.map (Value.int .i64)).length<=(madeCells #[Value.int .i64 0] (n+1)).toList.length:=by
 rw[List.length_map,h,Array.length_toList,size_madeCells]
 omega
theorem row_made (w:World) (n:Nat):Row (w.alloc (.cells (madeCells #[Value.int .i64 0] (n+1)) 3)) w.heap.size 0 ([]++[0])/\Free (w.alloc (.cells (madeCells #[Value.int .i64 0] (n+1)) 3)) w.heap.size 0 (n+1):=by
 constructor
 ·intro j hj
  have e:j=0:=by simp at hj;omega
  subst e
  rw[World.cell?_alloc_new]
  simp[made_at]
 ·intro j _
  exact World.frozen?_alloc_at _ _ _ _ rfl
theorem copy_made (ao:OAd) (n c:Nat) (l:List Int) (w:World) (hr:IntsAt w ao l) (hn:l.length=n) (h0:ao=none->c=0):
 ∃ w1,Sem.run Tryz.prog (Builtin.copy_ #[44,44] 3 #[.slice (some ⟨w.heap.size,0,none⟩) (n+1) (n+1),.slice ao n c]) (w.alloc (.cells (madeCells #[.int .i64 0] (n+1)) 3))=.ok (.int .i64 n) w1/\
  Row w1 w.heap.size 0 (l++[0])/\Free w1 w.heap.size 0 (n+1)/\Below w.heap.size w w1:=by
 cases ao with
 |none=>
  have hl:l=[]:=by
   rcases hr with h|⟨b,off,h,_⟩
   ·exact h
   ·cases h
  subst hl
  have e:n=0:=by rw[<-hn];rfl
  subst e
  rw[h0 rfl]
  have hm:=row_made w 0
  exact⟨_,run_copy_nil Tryz.prog _ 44 44 3 3 _ _ _ Tryz.underlying44 (by rw[sizeInfo3];rfl),hm.1,hm.2,(Below.refl _ _).alloc leR _⟩
 |some a=>
  have hcs:=copy_src (W:=w.alloc (.cells (madeCells #[.int .i64 0] (n+1)) 3)) hr (bAl _ _) w.heap.size
  have hsrc:∀ (j:Nat) (v:Value),(l.map (Value.int .i64))[j]?=some v->(w.alloc (.cells (madeCells #[.int .i64 0] (n+1)) 3)).cell? (a.add j)=some v:=by
   intro j v hj
   by_cases hp:0<(l.map (Value.int .i64)).length
   ·obtain⟨_,ad,e,h⟩:=hcs hp
    cases e
    exact h j v hj
   ·have:l.map (Value.int .i64)=[]:=List.length_eq_zero_iff.1 (by omega)
    rw[this] at hj
    simp at hj
  have hheap:=heap_made w (madeCells #[Value.int .i64 0] (n+1)) 3
  have hrun:=run_copy_row Tryz.prog (w.alloc (.cells (madeCells #[.int .i64 0] (n+1)) 3)) 44 44 3 3 w.heap.size 0 (n+1) (n+1) a n c (madeCells #[Value.int .i64 0] (n+1)) 3 (l.map (Value.int .i64)) Tryz.underlying44 sizeInfo3 hheap (len_made l n hn) hsrc (by have:=room_made l n hn;rwa [Array.length_toList] at this) (ints_one l)
  have hh:=setRow_heap (w.alloc (.cells (madeCells #[.int .i64 0] (n+1)) 3)) w.heap.size (madeCells #[Value.int .i64 0] (n+1)) (splice (madeCells #[Value.int .i64 0] (n+1)).toList 0 (l.map (Value.int .i64))).toArray 3 (0,0) hheap
  have hrf:=row_spliced hn hh
  refine⟨_,?_,hrf.1,hrf.2,below_setRow (bAl _ _) leR _⟩
  rw[hrun,List.length_map,hn]
  simp[splice,goInt]
  rw[hn]
theorem Row.head (h:Row w b off (l++[y])):Row w b off l:=by
 intro j hj
 rw[h j (by rw[List.length_append];omega)]
 simp only[List.getD]
 rw[List.getElem?_append_left hj]
theorem Row.last (h:Row w b 0 (l++[y])) (hn:l.length=n):w.cell? ⟨b,n,none⟩=some (.int .i64 y):=by
 have:=h n (by simp[hn])
 rw[Nat.zero_add] at this
 rw[this]
 subst hn
 simp[List.getD]
theorem stillInts_any (B:Nat) (ao:OAd) (n c:Nat) (l:List Int) (w:World) (ho:Row w B 0 (l++[-5])) (hr:IntsAt w ao l) (hn:l.length=n) (hm:n<=17592186044416):
 Calls Tryz.prog 201 #[.slice (some ⟨B,0,none⟩) n (n+1),.slice ao n c] w fun e w'=>e=.returned (.bool true)/\Below w.heap.size w w':=by
 have HN:=hiD hn
 have HO:=hiD ho
 clear hn ho
 go_enter Tryz.func201,Tryz.ntmps201
 go_wp2_with fail
 refine(sameInts_any _ _ _ _ _ l _ (Or.inr ⟨_,_,rfl,HO.out.head⟩) hr HN (by omega)).mono ?_
 rintro e w1 ⟨rfl,hb1⟩
 have hl:=(HO.out.grown hb1).last HN.out
 go_wp2
 go_ret
 exact⟨rfl,hb1⟩
end
end Go.Proofs.YtffgpepngcnjeabGreat
