import Derived.Test.YtffgpepngcnjeabGreatSab
namespace Go.Proofs.YtffgpepngcnjeabGreat
set_option maxRecDepth 100000
set_option maxHeartbeats 2000000
section
open Go.RowKit
variable {w w' W w1 wr:World} {b off B:Nat} {ao:OAd} {ys:LII} {t:Int} {y:Int×Int} {a c:Value}
structure InD where
 id:Int
 pos:Int
 ao:OAd
 n:Nat
 c:Nat
 l:List Int
def dIn:InD:=⟨0,0,none,0,0,[]⟩
structure InOk (w:World) (x:InD):Prop where
 lies:IntsAt w x.ao x.l
 len:x.l.length=x.n
 sz:x.n<=17592186044416
 nil:x.ao=none->x.c=0
structure InCells (w:World) (b off:Nat) (x:InD):Prop where
 c0:w.cell? ⟨b,off,none⟩=some (.int .i64 x.id)
 c1:w.cell? ⟨b,off+1,none⟩=some (.int .i64 x.pos)
 c2:w.cell? ⟨b,off+2,none⟩=some (.slice x.ao x.n x.c)
def InsRow (w:World) (b off:Nat) (xs:List InD):Prop:=∀ j,j<xs.length->InCells w b (off+j*3) (xs.getD j dIn)/\InOk w (xs.getD j dIn)
def InsAt (w:World) (ao:OAd) (xs:List InD):Prop:=xs=[]\/∃ b off,ao=some ⟨b,off,none⟩/\InsRow w b off xs
def OutCells (w:World) (b off:Nat) (x:Int×Int):Prop:=w.cell? ⟨b,off,none⟩=some (.int .i64 x.1)/\w.cell? ⟨b,off+1,none⟩=some (.int .i64 x.2)
def OutsRow (w:World) (b off:Nat) (ys:LII):Prop:=∀ j,j<ys.length->OutCells w b (off+j*2) (ys.getD j (0,0))
def OutsAt (w:World) (ao:OAd) (ys:LII):Prop:=ys=[]\/∃ b off,ao=some ⟨b,off,none⟩/\OutsRow w b off ys
theorem InCells.below {x:InD} (h:InCells w b off x) (hb:Below B w w') (hB:b<B):InCells w' b off x:=
 ⟨(hb.cell (p:=⟨b,off,none⟩) hB).trans h.c0,(hb.cell (p:=⟨b,off+1,none⟩) hB).trans h.c1,(hb.cell (p:=⟨b,off+2,none⟩) hB).trans h.c2⟩
theorem InOk.grown {x:InD} (h:InOk w x) (hb:Below w.heap.size w w'):InOk w' x:=⟨h.lies.grown hb,h.len,h.sz,h.nil⟩
theorem InsRow.grown {xs:List InD} (h:InsRow w b off xs) (hb:Below w.heap.size w w'):InsRow w' b off xs:=
 fun j hj=>⟨(h j hj).1.below hb (cell_lt (h j hj).1.c0),(h j hj).2.grown hb⟩
theorem InsAt.grown {xs:List InD} (h:InsAt w ao xs) (hb:Below w.heap.size w w'):InsAt w' ao xs:=by
 rcases h with h|⟨b,off,h,hr⟩
 ·exact Or.inl h
 ·exact Or.inr ⟨b,off,h,hr.grown hb⟩
theorem OutsRow.grown (h:OutsRow w b off ys) (hb:Below w.heap.size w w'):OutsRow w' b off ys:=
 fun j hj=>⟨(hb.cell (p:=⟨b,off+j*2,none⟩) (cell_lt (h j hj).1)).trans (h j hj).1,(hb.cell (p:=⟨b,off+j*2+1,none⟩) (cell_lt (h j hj).2)).trans (h j hj).2⟩
theorem OutsAt.grown (h:OutsAt w ao ys) (hb:Below w.heap.size w w'):OutsAt w' ao ys:=by
 rcases h with h|⟨b,off,h,hr⟩
 ·exact Or.inl h
 ·exact Or.inr ⟨b,off,h,hr.grown hb⟩
theorem bcell (hb:Below W.heap.size W w1):(∀ b o,b<W.heap.size->w1.cell? ⟨b,o,none⟩=W.cell? ⟨b,o,none⟩)/\(∀ b o,b<W.heap.size->w1.frozen? ⟨b,o,none⟩=W.frozen? ⟨b,o,none⟩):=
 ⟨fun b o h=>hb.cell (p:=⟨b,o,none⟩) h,fun b o h=>hb.frozen (p:=⟨b,o,none⟩) h⟩
def rIn (x:InD):Bool:=Mk.isM x.id&&(decide (0<=x.pos/\x.pos<8)&&(decide (x.n=0) || isS x.l))
def rOut (y:Int×Int):Bool:=Mk.isM y.1&&decide (10<=y.2/\y.2<=1099511627776)
def rIns (xs:List InD):Bool:=decide (xs.length<=10)&&xs.all rIn
def rOuts (ys:LII):Bool:=decide (1<=ys.length/\ys.length<=8)&&ys.all rOut
def rTx (t:Int) (xs:List InD) (ys:LII):Bool:=decide (0<=t/\t<=1099511627776)&&(rIns xs&&rOuts ys)
theorem rightOut_any (a v:Int) (w:World):
 Calls Tryz.prog 130 #[.agg #[.int .i64 a,.int .i64 v]] w fun e w'=>e=.returned (.bool (rOut (a,v)))/\Below w.heap.size w w':=by
 cases hm:Mk.isM a
 ·go_enter Tryz.func130,Tryz.ntmps130
  go_wp2_with (go_at_call 104;refine(is_any _ _).mono ?_;rintro e w' ⟨rfl,rfl⟩)
  go_ret
  exact⟨ret_bool (by simp[rOut,hm]),(Below.refl _ _).alloc leR _⟩
 ·by_cases h1:10<=v
  ·by_cases h2:v<=1099511627776
   ·go_enter Tryz.func130,Tryz.ntmps130
    go_wp2_with (go_at_call 104;refine(is_any _ _).mono ?_;rintro e w' ⟨rfl,rfl⟩)
    go_ret
    exact⟨ret_bool (by simp[rOut,hm,h1,h2]),(Below.refl _ _).alloc leR _⟩
   ·go_enter Tryz.func130,Tryz.ntmps130
    go_wp2_with (go_at_call 104;refine(is_any _ _).mono ?_;rintro e w' ⟨rfl,rfl⟩)
    go_ret
    exact⟨ret_bool (by simp[rOut,hm];omega),(Below.refl _ _).alloc leR _⟩
  ·go_enter Tryz.func130,Tryz.ntmps130
   go_wp2_with (go_at_call 104;refine(is_any _ _).mono ?_;rintro e w' ⟨rfl,rfl⟩)
   go_ret
   exact⟨ret_bool (by simp[rOut,hm];omega),(Below.refl _ _).alloc leR _⟩
theorem all_snoc {α:Type} (p:α->Bool) (l:List α) (d:α) (k:Nat) (h:k<l.length):(l.take (k+1)).all p=((l.take k).all p&&p (l.getD k d)):=by
 rw[List.take_succ_eq_append_getElem h,List.all_append]
 simp[List.getD,h]
theorem all_no {α:Type} (p:α->Bool) (l:List α) (d:α) (k:Nat) (h:k<l.length) (h':p (l.getD k d)=false):l.all p=false:=by
 rw[List.all_eq_false]
 refine⟨l[k],List.getElem_mem h,?_⟩
 simp only[List.getD,List.getElem?_eq_getElem h,Option.getD_some] at h'
 simp[h']
theorem all_done {α:Type} (p:α->Bool) (l:List α) (n:Nat) (hn:l.length=n) (k:Nat) (hk:n<=k) (h:(l.take k).all p=true):true=l.all p:=by
 rw[<-h,List.take_of_length_le (by omega)]
theorem rightOuts_row (b off n c:Nat) (ys:LII) (w:World) (hr:OutsRow w b off ys) (hn:ys.length=n) (h1:1<=n) (h8:n<=8):
 Calls Tryz.prog 79 #[.slice (some ⟨b,off,none⟩) n c] w fun e w'=>e=.returned (.bool (ys.all rOut))/\Below w.heap.size w w':=by
 have HR:=hiD hr
 have HN:=hiD hn
 have g1:decide ((n:Int)<1)=false:=by rw[decide_eq_false_iff_not];omega
 have g2:decide (8<(n:Int))=false:=by rw[decide_eq_false_iff_not];omega
 clear hr hn
 go_enter Tryz.func79,Tryz.ntmps79
 go_wp2
 go_loopw [15] (fun i wr=>∃ k:Nat,k<=n/\i=.int .i64 k/\Hid ((ys.take k).all rOut=true)/\Below w.heap.size w wr) (fun i _=>n-(intOf i).toNat)
 case atStart=>exact⟨0,Nat.zero_le _,rfl,by show List.all _ _=true;simp,Below.refl _ _⟩
 case round=>
  obtain⟨k,hk,rfl,hall,hbl⟩:=hrel
  have hsz:=hbl.size
  by_cases hlt:k<n
  ·obtain⟨c0,c1⟩:=(HR.out.grown hbl) k (by rw[HN.out];exact hlt)
   have HS:Hid _:=all_snoc rOut ys (0,0) k (by rw[HN.out];exact hlt)
   have HZ:Hid _:=all_no rOut ys (0,0) k (by rw[HN.out];exact hlt)
   generalize ys.getD k (0,0)=y at c0 c1 HS HZ
   obtain⟨ya,yv⟩:=y
   simp only at c0 c1
   cases hy:rOut (ya,yv)
   ·go_wp2_with (go_at_call 130;refine(rightOut_any _ _ _).mono ?_;rintro e w2 ⟨rfl,hb2⟩;simp only[hy])
    go_ret
    exact⟨ret_bool (HZ hy).symm,below_blk (hbl.alloc hsz _) (by simpa using hb2)⟩
   ·go_wp2_with (go_at_call 130;refine(rightOut_any _ _ _).mono ?_;rintro e w2 ⟨rfl,hb2⟩;simp only[hy])
    go_roundw
    case rel=>exact⟨k+1,by omega,by go_num,by show List.all _ _=true;rw[HS.out,hall.out,hy];rfl,below_blk (hbl.alloc hsz _) hb2⟩
    case measure=>simp[intOf];omega
  ·go_wp2
   go_ret
   exact⟨ret_bool (all_done rOut ys n HN k (by omega) hall.out),hbl⟩
theorem rightOuts_few (ao:OAd) (n c:Nat) (w:World) (hn:n<1\/8<n):
 Calls Tryz.prog 79 #[.slice ao n c] w fun e w'=>e=.returned (.bool false)/\Below w.heap.size w w':=by
 by_cases h:n<1
 ·have g1:decide ((n:Int)<1)=true:=by rw[decide_eq_true_iff];omega
  go_enter Tryz.func79,Tryz.ntmps79
  go_wp2
  go_ret
  exact⟨rfl,Below.refl _ _⟩
 ·have g1:decide ((n:Int)<1)=false:=by rw[decide_eq_false_iff_not];omega
  have g2:decide (8<(n:Int))=true:=by rw[decide_eq_true_iff];omega
  go_enter Tryz.func79,Tryz.ntmps79
  go_wp2
  go_ret
  exact⟨rfl,Below.refl _ _⟩
theorem rightOuts_any (ao:OAd) (n c:Nat) (ys:LII) (w:World) (hr:OutsAt w ao ys) (hn:ys.length=n):
 Calls Tryz.prog 79 #[.slice ao n c] w fun e w'=>e=.returned (.bool (rOuts ys))/\Below w.heap.size w w':=by
 by_cases h:1<=n/\n<=8
 ·have e:rOuts ys=ys.all rOut:=by unfold rOuts;rw[hn,decide_eq_true h];rfl
  rw[e]
  rcases hr with rfl|⟨b,off,rfl,hr⟩
  ·simp at hn;omega
  ·exact rightOuts_row b off n c ys w hr hn h.1 h.2
 ·have e:rOuts ys=false:=by unfold rOuts;rw[hn,decide_eq_false h];rfl
  rw[e]
  exact rightOuts_few ao n c w (by omega)
theorem rightIn_any (x:InD) (w:World) (hx:InOk w x):
 Calls Tryz.prog 216 #[.agg #[.int .i64 x.id,.int .i64 x.pos,.slice x.ao x.n x.c]] w fun e w'=>e=.returned (.bool (rIn x))/\Below w.heap.size w w':=by
 obtain⟨id,pos,ao,n,c,l⟩:=x
 obtain⟨h1,h2,h3,h4⟩:=hx
 simp only at h1 h2 h3 h4 ⊢
 have HN:=hiD h2
 have HR:=hiD h1
 clear h1 h2 h4
 have bl:∀ o,Below w.heap.size w (w.alloc o):=fun o=>(Below.refl _ _).alloc leR _
 have HB:Hid _:=bl
 clear bl
 cases hm:Mk.isM id
 ·go_enter Tryz.func216,Tryz.ntmps216
  go_wp2_with (go_at_call 104;refine(is_any _ _).mono ?_;rintro e w' ⟨rfl,rfl⟩)
  go_ret
  exact⟨ret_bool (by simp[rIn,hm]),HB _⟩
 ·by_cases p0:0<=pos
  ·by_cases p1:pos<8
   ·by_cases hn0:n=0
    ·subst hn0
     go_enter Tryz.func216,Tryz.ntmps216
     go_wp2_with (go_at_call 104;refine(is_any _ _).mono ?_;rintro e w' ⟨rfl,rfl⟩)
     go_ret
     exact⟨ret_bool (by simp[rIn,hm,p0,p1]),HB _⟩
    ·have hn0':((n:Int)== 0)=false:=by rw[beq_eq_false_iff_ne];omega
     go_enter Tryz.func216,Tryz.ntmps216
     go_wp2_with (first|(go_at_call 104;refine(is_any _ _).mono ?_;rintro e w' ⟨rfl,rfl⟩)|(go_at_call 149;refine(isSeal_any _ _ _ l _ (HR.out.grown (HB _)) HN (by omega)).mono ?_;rintro e w' ⟨rfl,rfl⟩))
     go_ret
     exact⟨ret_bool (by simp[rIn,hm,p0,p1,hn0]),HB _⟩
   ·go_enter Tryz.func216,Tryz.ntmps216
    go_wp2_with (go_at_call 104;refine(is_any _ _).mono ?_;rintro e w' ⟨rfl,rfl⟩)
    go_ret
    exact⟨ret_bool (by simp[rIn,hm];omega),HB _⟩
  ·go_enter Tryz.func216,Tryz.ntmps216
   go_wp2_with (go_at_call 104;refine(is_any _ _).mono ?_;rintro e w' ⟨rfl,rfl⟩)
   go_ret
   exact⟨ret_bool (by simp[rIn,hm];omega),HB _⟩
theorem rightIns_none (ao:OAd) (c:Nat) (w:World):
 Calls Tryz.prog 189 #[.slice ao 0 c] w fun e w'=>e=.returned (.bool true)/\Below w.heap.size w w':=by
 go_enter Tryz.func189,Tryz.ntmps189
 go_wp2
 refine wp_loop_rounds 1 ?_
 rw[rounds_succ]
 go_wp2
 go_ret
 exact⟨rfl,Below.refl _ _⟩
theorem rightIns_row (b off n c:Nat) (xs:List InD) (w:World) (hr:InsRow w b off xs) (hn:xs.length=n) (h8:n<=10):
 Calls Tryz.prog 189 #[.slice (some ⟨b,off,none⟩) n c] w fun e w'=>e=.returned (.bool (xs.all rIn))/\Below w.heap.size w w':=by
 have HR:=hiD hr
 have HN:=hiD hn
 have g2:decide (10<(n:Int))=false:=by rw[decide_eq_false_iff_not];omega
 clear hr hn
 go_enter Tryz.func189,Tryz.ntmps189
 go_wp2
 go_loopw [10] (fun i wr=>∃ k:Nat,k<=n/\i=.int .i64 k/\Hid ((xs.take k).all rIn=true)/\Below w.heap.size w wr) (fun i _=>n-(intOf i).toNat)
 case atStart=>exact⟨0,Nat.zero_le _,rfl,by show List.all _ _=true;simp,Below.refl _ _⟩
 case round=>
  obtain⟨k,hk,rfl,hall,hbl⟩:=hrel
  have hsz:=hbl.size
  by_cases hlt:k<n
  ·obtain⟨⟨c0,c1,c2⟩,hok⟩:=(HR.out.grown hbl) k (by rw[HN.out];exact hlt)
   have HS:Hid _:=all_snoc rIn xs dIn k (by rw[HN.out];exact hlt)
   have HZ:Hid _:=all_no rIn xs dIn k (by rw[HN.out];exact hlt)
   generalize xs.getD k dIn=y at c0 c1 c2 hok HS HZ
   have hok':=fun o=>hok.grown (w':=wr.alloc o) (bAl _ _)
   have HK:Hid _:=hok'
   clear hok hok'
   cases hy:rIn y
   ·go_wp2_with (go_at_call 216;refine(rightIn_any y _ (HK _)).mono ?_;rintro e w2 ⟨rfl,hb2⟩;simp only[hy])
    go_ret
    exact⟨ret_bool (HZ hy).symm,below_blk (hbl.alloc hsz _) (by simpa using hb2)⟩
   ·go_wp2_with (go_at_call 216;refine(rightIn_any y _ (HK _)).mono ?_;rintro e w2 ⟨rfl,hb2⟩;simp only[hy])
    go_roundw
    case rel=>exact⟨k+1,by omega,by go_num,by show List.all _ _=true;rw[HS.out,hall.out,hy];rfl,below_blk (hbl.alloc hsz _) hb2⟩
    case measure=>simp[intOf];omega
  ·go_wp2
   go_ret
   exact⟨ret_bool (all_done rIn xs n HN k (by omega) hall.out),hbl⟩
theorem rightIns_many (ao:OAd) (n c:Nat) (w:World) (hn:10<n):
 Calls Tryz.prog 189 #[.slice ao n c] w fun e w'=>e=.returned (.bool false)/\Below w.heap.size w w':=by
 have g2:decide (10<(n:Int))=true:=by rw[decide_eq_true_iff];omega
 go_enter Tryz.func189,Tryz.ntmps189
 go_wp2
 go_ret
 exact⟨rfl,Below.refl _ _⟩
theorem rightIns_any (ao:OAd) (n c:Nat) (xs:List InD) (w:World) (hr:InsAt w ao xs) (hn:xs.length=n):
 Calls Tryz.prog 189 #[.slice ao n c] w fun e w'=>e=.returned (.bool (rIns xs))/\Below w.heap.size w w':=by
 by_cases h:n<=10
 ·have e:rIns xs=xs.all rIn:=by unfold rIns;rw[hn,decide_eq_true h];rfl
  rw[e]
  rcases hr with rfl|⟨b,off,rfl,hr⟩
  ·have h0:n=0:=by rw[<-hn];rfl
   subst h0
   exact rightIns_none ao c w
  ·exact rightIns_row b off n c xs w hr hn h
 ·have e:rIns xs=false:=by unfold rIns;rw[hn,decide_eq_false h];rfl
  rw[e]
  exact rightIns_many ao n c w (by omega)
theorem rightTag_any (t:Int) (w:World):Calls Tryz.prog 78 #[.int .i64 t] w fun e w'=>e=.returned (.bool (decide (0<=t/\t<=1099511627776)))/\w=w':=by
 by_cases t0:0<=t
 ·by_cases t1:t<=1099511627776
  ·go_enter Tryz.func78,Tryz.ntmps78
   go_wp2
   go_ret
   exact⟨ret_bool (by simp[t0,t1]),rfl⟩
  ·go_enter Tryz.func78,Tryz.ntmps78
   go_wp2
   go_ret
   exact⟨ret_bool (by simp;omega),rfl⟩
 ·go_enter Tryz.func78,Tryz.ntmps78
  go_wp2
  go_ret
  exact⟨ret_bool (by simp;omega),rfl⟩
theorem rightShape_any (t:Int) (ai:OAd) (n c:Nat) (ap:OAd) (m d:Nat) (xs:List InD) (ys:LII) (w:World) (hx:InsAt w ai xs) (hn:xs.length=n) (hy:OutsAt w ap ys) (hm:ys.length=m):
 Calls Tryz.prog 142 #[.agg #[.int .i64 t,.slice ai n c,.slice ap m d]] w fun e w'=>e=.returned (.bool (rTx t xs ys))/\Below w.heap.size w w':=by
 have HN:=hiD hn
 have HM:=hiD hm
 have HX:=hiD hx
 have HY:=hiD hy
 clear hn hm hx hy
 have bl:∀ o,Below w.heap.size w (w.alloc o):=fun o=>(Below.refl _ _).alloc leR _
 have HB:Hid _:=bl
 clear bl
 cases ht:decide (0<=t/\t<=1099511627776)
 ·go_enter Tryz.func142,Tryz.ntmps142
  go_wp2_with (go_at_call 78;refine(rightTag_any _ _).mono ?_;rintro e w' ⟨rfl,rfl⟩;rw[ht])
  go_ret
  exact⟨ret_bool (by simp only[rTx,ht];rfl),HB _⟩
 ·cases hi:rIns xs
  ·go_enter Tryz.func142,Tryz.ntmps142
   go_wp2_with (first|(go_at_call 78;refine(rightTag_any _ _).mono ?_;rintro e w' ⟨rfl,rfl⟩;rw[ht])|(go_at_call 189;refine(rightIns_any _ _ _ xs _ (HX.out.grown (HB _)) HN).mono ?_;rintro e w1 ⟨rfl,hb1⟩;rw[hi]))
   go_ret
   exact⟨ret_bool (by simp[rTx,hi]),below_blk (HB _) hb1⟩
  ·go_enter Tryz.func142,Tryz.ntmps142
   go_wp2_with (first|(go_at_call 78;refine(rightTag_any _ _).mono ?_;rintro e w' ⟨rfl,rfl⟩;rw[ht])|fail)
   refine(rightIns_any _ _ _ xs _ (HX.out.grown (HB _)) HN).mono ?_
   rintro e w1 ⟨rfl,hb1⟩
   rw[hi]
   have hw1:=below_blk (HB.out _) hb1
   obtain⟨c1,_⟩:=bcell hb1
   go_wp2_with fail
   refine(rightOuts_any _ _ _ ys _ (HY.out.grown hw1) HM).mono ?_
   rintro e w2 ⟨rfl,hb2⟩
   go_wp2
   go_ret
   exact⟨ret_bool (by simp only[rTx,hi,ht];rfl),below_blk hw1 hb2⟩
def inL (xs:List InD):List Int:=xs.flatMap fun x=>[x.id,x.pos]
def outL (ys:LII):List Int:=ys.flatMap fun y=>[y.1,y.2]
def idL (t:Int) (xs:List InD) (ys:LII):List Int:=[t,(xs.length:Int)]++inL xs++[(ys.length:Int)]++outL ys
def idZ (t:Int) (xs:List InD) (ys:LII):Int:=if rTx t xs ys=true then Mk.mixL 1 (idL t xs ys) else 0
theorem inL_snoc (xs:List InD) (k:Nat) (h:k<xs.length):inL (xs.take (k+1))=inL (xs.take k)++[(xs.getD k dIn).id,(xs.getD k dIn).pos]:=by
 unfold inL
 rw[List.take_succ_eq_append_getElem h,List.flatMap_append]
 simp[List.getD,h]
theorem outL_snoc (ys:LII) (k:Nat) (h:k<ys.length):outL (ys.take (k+1))=outL (ys.take k)++[(ys.getD k (0,0)).1,(ys.getD k (0,0)).2]:=by
 unfold outL
 rw[List.take_succ_eq_append_getElem h,List.flatMap_append]
 simp[List.getD,h]
theorem mixIn_snoc (h:Int) (xs:List InD) (k:Nat) (hk:k<xs.length):Mk.mixL h (inL (xs.take (k+1)))=Mk.mx (Mk.mx (Mk.mixL h (inL (xs.take k))) (xs.getD k dIn).id) (xs.getD k dIn).pos:=by
 rw[inL_snoc xs k hk,Mk.mixL_append];rfl
theorem mixOut_snoc (h:Int) (ys:LII) (k:Nat) (hk:k<ys.length):Mk.mixL h (outL (ys.take (k+1)))=Mk.mx (Mk.mx (Mk.mixL h (outL (ys.take k))) (ys.getD k (0,0)).1) (ys.getD k (0,0)).2:=by
 rw[outL_snoc ys k hk,Mk.mixL_append];rfl
theorem rTx_parts {xs:List InD} (h:rTx t xs ys=true):
 (0<=t/\t<=1099511627776)/\xs.length<=10/\(∀ j,j<xs.length->rIn (xs.getD j dIn)=true)/\(1<=ys.length/\ys.length<=8)/\(∀ j,j<ys.length->rOut (ys.getD j (0,0))=true):=by
 simp only[rTx,rIns,rOuts,Bool.and_eq_true,decide_eq_true_iff,List.all_eq_true] at h
 obtain⟨h1,⟨h2,h3⟩,h4,h5⟩:=h
 refine⟨h1,h2,fun j hj=>?_,h4,fun j hj=>?_⟩
 ·have:=h3 _ (List.getElem_mem hj)
  simpa [List.getD,hj] using this
 ·have:=h5 _ (List.getElem_mem hj)
  simpa [List.getD,hj] using this
theorem rIn_bd {x:InD} (h:rIn x=true):(0<=x.id/\x.id<99991)/\(0<=x.pos/\x.pos<8):=by
 simp only[rIn,Bool.and_eq_true,decide_eq_true_iff] at h
 exact⟨(Mk.isM_iff _).1 h.1,h.2.1⟩
theorem rOut_bd (h:rOut y=true):(0<=y.1/\y.1<99991)/\(10<=y.2/\y.2<=1099511627776):=by
 simp only[rOut,Bool.and_eq_true,decide_eq_true_iff] at h
 exact⟨(Mk.isM_iff _).1 h.1,h.2⟩
theorem idL_split (t:Int) (xs:List InD) (ys:LII):Mk.mixL 1 (idL t xs ys)=Mk.mixL (Mk.mx (Mk.mixL (Mk.mx (Mk.mx 1 t) (xs.length:Int)) (inL xs)) (ys.length:Int)) (outL ys):=by
 unfold idL
 rw[Mk.mixL_append,Mk.mixL_append,Mk.mixL_append]
 rfl
theorem txId_no (t:Int) (ai:OAd) (n c:Nat) (ap:OAd) (m d:Nat) (xs:List InD) (ys:LII) (w:World) (hx:InsAt w ai xs) (hn:xs.length=n) (hy:OutsAt w ap ys) (hm:ys.length=m) (hr:rTx t xs ys=false):
 Calls Tryz.prog 85 #[.agg #[.int .i64 t,.slice ai n c,.slice ap m d]] w fun e w'=>e=.returned (.int .i64 0)/\Below w.heap.size w w':=by
 have HN:=hiD hn
 have HM:=hiD hm
 have HX:=hiD hx
 have HY:=hiD hy
 clear hn hm hx hy
 have bl:∀ o,Below w.heap.size w (w.alloc o):=fun o=>(Below.refl _ _).alloc leR _
 have HB:Hid _:=bl
 clear bl
 go_enter Tryz.func85,Tryz.ntmps85
 go_wp2_with fail
 refine(rightShape_any _ _ _ _ _ _ _ xs ys _ (HX.out.grown (HB _)) HN (HY.out.grown (HB _)) HM).mono ?_
 rintro e w1 ⟨rfl,hb1⟩
 rw[hr]
 go_wp2
 go_ret
 exact⟨rfl,below_blk (HB _) hb1⟩
theorem txId_yes (t:Int) (ai:OAd) (n c:Nat) (ap:OAd) (m d:Nat) (xs:List InD) (ys:LII) (w:World) (hx:InsAt w ai xs) (hn:xs.length=n) (hy:OutsAt w ap ys) (hm:ys.length=m) (hr:rTx t xs ys=true):
 Calls Tryz.prog 85 #[.agg #[.int .i64 t,.slice ai n c,.slice ap m d]] w fun e w'=>e=.returned (.int .i64 (Mk.mixL 1 (idL t xs ys)))/\Below w.heap.size w w':=by
 obtain⟨ht,hn10,hin,hm8,hout⟩:=rTx_parts hr
 rw[hn] at hn10
 rw[hm] at hm8
 have HN:=hiD hn
 have HM:=hiD hm
 have HX:=hiD hx
 have HY:=hiD hy
 have HI:Hid _:=hin
 have HO:Hid _:=hout
 clear hn hm hx hy hin hout
 have bl:∀ o,Below w.heap.size w (w.alloc o):=fun o=>(Below.refl _ _).alloc leR _
 have HB:Hid _:=bl
 clear bl
 have HE:Hid _:=idL_split t xs ys
 rw[HN.out,HM.out] at HE
 have b1:=Mk.mx_bd 1 t
 have b2:=Mk.mx_bd (Mk.mx 1 t) (n:Int)
 go_enter Tryz.func85,Tryz.ntmps85
 go_wp2_with fail
 refine(rightShape_any _ _ _ _ _ _ _ xs ys _ (HX.out.grown (HB _)) HN (HY.out.grown (HB _)) HM).mono ?_
 rintro e w1 ⟨rfl,hb1⟩
 rw[hr]
 have hw1:=below_blk (HB.out _) hb1
 obtain⟨cc,_⟩:=bcell hb1
 go_wp2_with (go_at_call 143;refine(mix_any _ _ _ (by omega) (by omega) (by omega) (by omega)).mono ?_;rintro e w' ⟨rfl,rfl⟩)
 clear cc
 generalize hh0:Mk.mx (Mk.mx 1 t) (n:Int)=h0 at *
 clear b1
 go_loopw [3,22] (fun v i wr=>∃ k:Nat,k<=n/\i=.int .i64 k/\v=.int .i64 (Mk.mixL h0 (inL (xs.take k)))/\Below w1.heap.size w1 wr) (fun _ i _=>n-(intOf i).toNat)
 case atStart=>exact⟨0,Nat.zero_le _,rfl,rfl,Below.refl _ _⟩
 case round=>
  obtain⟨k,hk,rfl,rfl,hbl⟩:=hrel
  have hsz:=hbl.size
  have hw:=below_blk hw1 hbl
  have hmb:=Mk.mixL_bd h0 (inL (xs.take k)) b2.1 b2.2
  by_cases hlt:k<n
  ·rcases HX.out with hnil|⟨b,off,rfl,hrow⟩
   ·have:=HN.out;rw[hnil] at this;simp at this;omega
   obtain⟨⟨c0,c1,c2⟩,_⟩:=(hrow.grown hw) k (by rw[HN.out];exact hlt)
   have HS:Hid _:=mixIn_snoc h0 xs k (by rw[HN.out];exact hlt)
   have hb:=rIn_bd (HI.out k (by rw[HN.out];exact hlt))
   clear hrow
   generalize xs.getD k dIn=y at c0 c1 c2 HS hb
   obtain⟨yid,ypos,yao,yn,yc,yl⟩:=y
   simp only at c0 c1 c2 hb
   generalize Mk.mixL h0 (inL (xs.take k))=hh at *
   have bb:=Mk.mx_bd hh yid
   go_wp2_with (go_at_call 143;refine(mix_any _ _ _ (by omega) (by omega) (by omega) (by omega)).mono ?_;rintro e w' ⟨rfl,rfl⟩)
   go_roundw
   case rel=>exact⟨k+1,by omega,by go_num,by rw[HS.out],hbl.alloc hsz _⟩
   case measure=>simp[intOf];omega
  ·have hkn:k=n:=by omega
   subst hkn
   have HT:Hid (inL (xs.take k)=inL xs):=by show _=_;rw[List.take_of_length_le (by rw[HN.out];omega)]
   rw[HT.out] at hmb ⊢
   generalize hh1:Mk.mixL h0 (inL xs)=h1 at *
   have b3:=Mk.mx_bd h1 (m:Int)
   have hbx:=hb1.trans (hbl.mono hb1.size)
   obtain⟨cc,_⟩:=bcell hbx
   clear hlt
   go_wp2_with (go_at_call 143;refine(mix_any _ _ _ (by omega) (by omega) (by omega) (by omega)).mono ?_;rintro e w' ⟨rfl,rfl⟩)
   clear cc
   generalize hh2:Mk.mx h1 (m:Int)=h2 at *
   go_loopw [3,43] (fun v i ws=>∃ j:Nat,j<=m/\i=.int .i64 j/\v=.int .i64 (Mk.mixL h2 (outL (ys.take j)))/\Below wr.heap.size wr ws) (fun _ i _=>m-(intOf i).toNat)
   case atStart=>exact⟨0,Nat.zero_le _,rfl,rfl,Below.refl _ _⟩
   case round=>
    obtain⟨j,hj,rfl,rfl,hbl2⟩:=hrel
    have hsz2:=hbl2.size
    have hv:=below_blk hw hbl2
    have hmb2:=Mk.mixL_bd h2 (outL (ys.take j)) b3.1 b3.2
    by_cases hjt:j<m
    ·rcases HY.out with hnil|⟨b,off,rfl,hrow⟩
     ·have:=HM.out;rw[hnil] at this;simp at this;omega
     obtain⟨c0,c1⟩:=(hrow.grown hv) j (by rw[HM.out];exact hjt)
     have HS:Hid _:=mixOut_snoc h2 ys j (by rw[HM.out];exact hjt)
     have hb:=rOut_bd (HO.out j (by rw[HM.out];exact hjt))
     clear hrow
     generalize ys.getD j (0,0)=y at c0 c1 HS hb
     obtain⟨ya,yv⟩:=y
     simp only at c0 c1 hb
     generalize Mk.mixL h2 (outL (ys.take j))=hh at *
     have bb:=Mk.mx_bd hh ya
     go_wp2_with (go_at_call 143;refine(mix_any _ _ _ (by omega) (by omega) (by omega) (by omega)).mono ?_;rintro e w' ⟨rfl,rfl⟩)
     go_roundw
     case rel=>exact⟨j+1,by omega,by go_num,by rw[HS.out],hbl2.alloc hsz2 _⟩
     case measure=>simp[intOf];omega
    ·go_wp2
     go_ret
     refine⟨ret_int ?_,hv⟩
     rw[HE.out,List.take_of_length_le (by rw[HM.out];omega)]
theorem txId_any (t:Int) (ai:OAd) (n c:Nat) (ap:OAd) (m d:Nat) (xs:List InD) (ys:LII) (w:World) (hx:InsAt w ai xs) (hn:xs.length=n) (hy:OutsAt w ap ys) (hm:ys.length=m):
 Calls Tryz.prog 85 #[.agg #[.int .i64 t,.slice ai n c,.slice ap m d]] w fun e w'=>e=.returned (.int .i64 (idZ t xs ys))/\Below w.heap.size w w':=by
 unfold idZ
 cases hr:rTx t xs ys
 ·rw[if_neg (by simp)]
  exact txId_no t ai n c ap m d xs ys w hx hn hy hm hr
 ·rw[if_pos rfl]
  exact txId_yes t ai n c ap m d xs ys w hx hn hy hm hr
theorem rRightOut_any (a v:Int) (w:World):
 Calls Tryz.prog 204 #[.agg #[.int .i64 a,.int .i64 v]] w fun e w'=>e=.returned (.bool (rOut (a,v)))/\Below w.heap.size w w':=by
 cases hm:Mk.isM a
 ·go_enter Tryz.func204,Tryz.ntmps204
  go_wp2_with (go_at_call 105;refine(rMark_any _ _).mono ?_;rintro e w' ⟨rfl,rfl⟩)
  go_ret
  exact⟨ret_bool (by simp[rOut,hm]),(Below.refl _ _).alloc leR _⟩
 ·by_cases h1:10<=v
  ·by_cases h2:v<=1099511627776
   ·go_enter Tryz.func204,Tryz.ntmps204
    go_wp2_with (go_at_call 105;refine(rMark_any _ _).mono ?_;rintro e w' ⟨rfl,rfl⟩)
    go_ret
    exact⟨ret_bool (by simp[rOut,hm,h1,h2]),(Below.refl _ _).alloc leR _⟩
   ·go_enter Tryz.func204,Tryz.ntmps204
    go_wp2_with (go_at_call 105;refine(rMark_any _ _).mono ?_;rintro e w' ⟨rfl,rfl⟩)
    go_ret
    exact⟨ret_bool (by simp[rOut,hm];omega),(Below.refl _ _).alloc leR _⟩
  ·go_enter Tryz.func204,Tryz.ntmps204
   go_wp2_with (go_at_call 105;refine(rMark_any _ _).mono ?_;rintro e w' ⟨rfl,rfl⟩)
   go_ret
   exact⟨ret_bool (by simp[rOut,hm];omega),(Below.refl _ _).alloc leR _⟩
theorem rRightIn_any (x:InD) (w:World) (hx:InOk w x):
 Calls Tryz.prog 220 #[.agg #[.int .i64 x.id,.int .i64 x.pos,.slice x.ao x.n x.c]] w fun e w'=>e=.returned (.bool (rIn x))/\Below w.heap.size w w':=by
 obtain⟨id,pos,ao,n,c,l⟩:=x
 obtain⟨h1,h2,h3,h4⟩:=hx
 simp only at h1 h2 h3 h4 ⊢
 have HN:=hiD h2
 have HR:=hiD h1
 clear h1 h2 h4
 have bl:∀ o,Below w.heap.size w (w.alloc o):=fun o=>(Below.refl _ _).alloc leR _
 have HB:Hid _:=bl
 clear bl
 cases hm:Mk.isM id
 ·go_enter Tryz.func220,Tryz.ntmps220
  go_wp2_with (first|(go_at_call 105;refine(rMark_any _ _).mono ?_;rintro e w' ⟨rfl,rfl⟩)|(go_at_call 224;refine(rIsSeal_any _ _ _ l _ (HR.out.grown (HB _)) HN).mono ?_;rintro e w' ⟨rfl,rfl⟩))
  go_ret
  exact⟨ret_bool (by simp[rIn,hm]),HB _⟩
 ·by_cases p0:0<=pos
  ·by_cases p1:pos<8
   ·by_cases hn0:n=0
    ·subst hn0
     go_enter Tryz.func220,Tryz.ntmps220
     go_wp2_with (first|(go_at_call 105;refine(rMark_any _ _).mono ?_;rintro e w' ⟨rfl,rfl⟩)|(go_at_call 224;refine(rIsSeal_any _ _ _ l _ (HR.out.grown (HB _)) HN).mono ?_;rintro e w' ⟨rfl,rfl⟩))
     go_ret
     exact⟨ret_bool (by simp[rIn,hm,p0,p1]),HB _⟩
    ·have hn0':((n:Int)== 0)=false:=by rw[beq_eq_false_iff_ne];omega
     go_enter Tryz.func220,Tryz.ntmps220
     go_wp2_with (first|(go_at_call 105;refine(rMark_any _ _).mono ?_;rintro e w' ⟨rfl,rfl⟩)|(go_at_call 224;refine(rIsSeal_any _ _ _ l _ (HR.out.grown (HB _)) HN).mono ?_;rintro e w' ⟨rfl,rfl⟩))
     go_ret
     exact⟨ret_bool (by simp[rIn,hm,p0,p1,hn0]),HB _⟩
   ·go_enter Tryz.func220,Tryz.ntmps220
    go_wp2_with (first|(go_at_call 105;refine(rMark_any _ _).mono ?_;rintro e w' ⟨rfl,rfl⟩)|(go_at_call 224;refine(rIsSeal_any _ _ _ l _ (HR.out.grown (HB _)) HN).mono ?_;rintro e w' ⟨rfl,rfl⟩))
    go_ret
    exact⟨ret_bool (by simp[rIn,hm];omega),HB _⟩
  ·go_enter Tryz.func220,Tryz.ntmps220
   go_wp2_with (first|(go_at_call 105;refine(rMark_any _ _).mono ?_;rintro e w' ⟨rfl,rfl⟩)|(go_at_call 224;refine(rIsSeal_any _ _ _ l _ (HR.out.grown (HB _)) HN).mono ?_;rintro e w' ⟨rfl,rfl⟩))
   go_ret
   exact⟨ret_bool (by simp[rIn,hm];omega),HB _⟩
theorem rTx_noIns {xs:List InD} (h:xs.all rIn=false):rTx t xs ys=false:=by simp only[rTx,rIns,h];simp
theorem rTx_noOuts {xs:List InD} (h:ys.all rOut=false):rTx t xs ys=false:=by simp only[rTx,rOuts,h];simp
theorem rRight_no (t:Int) (ai:OAd) (n c:Nat) (ap:OAd) (m d:Nat) (w:World) (h:t<0\/1099511627776<t\/10<n\/m<1\/8<m):
 Calls Tryz.prog 208 #[.agg #[.int .i64 t,.slice ai n c,.slice ap m d]] w fun e w'=>e=.returned (.bool false)/\Below w.heap.size w w':=by
 by_cases h1:t<0
 ·clear h
  go_enter Tryz.func208,Tryz.ntmps208
  go_wp2
  go_ret
  exact⟨rfl,(Below.refl _ _).alloc leR _⟩
 ·by_cases h2:1099511627776<t
  ·clear h
   go_enter Tryz.func208,Tryz.ntmps208
   go_wp2
   go_ret
   exact⟨rfl,(Below.refl _ _).alloc leR _⟩
  ·by_cases h3:10<n
   ·clear h
    go_enter Tryz.func208,Tryz.ntmps208
    go_wp2
    go_ret
    exact⟨rfl,(Below.refl _ _).alloc leR _⟩
   ·by_cases h4:m<1
    ·clear h
     go_enter Tryz.func208,Tryz.ntmps208
     go_wp2
     go_ret
     exact⟨rfl,(Below.refl _ _).alloc leR _⟩
    ·have h5:8<m:=by omega
     clear h
     go_enter Tryz.func208,Tryz.ntmps208
     go_wp2
     go_ret
     exact⟨rfl,(Below.refl _ _).alloc leR _⟩
theorem box3 {b:Value} {T:TypeId} (h:Below (w.alloc (.cells #[a,b,c] T)).heap.size (w.alloc (.cells #[a,b,c] T)) wr):
 wr.cell? ⟨w.heap.size,0,none⟩=some a/\wr.cell? ⟨w.heap.size,1,none⟩=some b/\wr.cell? ⟨w.heap.size,2,none⟩=some c:=by
 have hlt:w.heap.size<(w.alloc (.cells #[a,b,c] T)).heap.size:=by rw[World.size_alloc];omega
 refine⟨(h.cell (p:=⟨w.heap.size,0,none⟩) hlt).trans ?_,(h.cell (p:=⟨w.heap.size,1,none⟩) hlt).trans ?_,(h.cell (p:=⟨w.heap.size,2,none⟩) hlt).trans ?_⟩
 all_goals
  rw[World.cell?_alloc_new]
  rfl
theorem rTx_yes {xs:List InD} (ht:0<=t/\t<=1099511627776) (hn:xs.length<=10) (hm:1<=ys.length/\ys.length<=8) (hx:xs.all rIn=true) (hy:ys.all rOut=true):rTx t xs ys=true:=by
 simp only[rTx,rIns,rOuts,hx,hy,Bool.and_true]
 simp[ht,hn,hm]
theorem rRight_num (t:Int) (ai:OAd) (n c:Nat) (ap:OAd) (m d:Nat) (xs:List InD) (ys:LII) (w:World) (hx:InsAt w ai xs) (hn:xs.length=n) (hy:OutsAt w ap ys) (hm:ys.length=m) (t0:0<=t) (t1:t<=1099511627776) (n1:n<=10) (m1:1<=m) (m2:m<=8):
 Calls Tryz.prog 208 #[.agg #[.int .i64 t,.slice ai n c,.slice ap m d]] w fun e w'=>e=.returned (.bool (rTx t xs ys))/\Below w.heap.size w w':=by
 have HN:=hiD hn
 have HM:=hiD hm
 have HX:=hiD hx
 have HY:=hiD hy
 clear hn hm hx hy
 have bl:∀ o,Below w.heap.size w (w.alloc o):=fun o=>(Below.refl _ _).alloc leR _
 have HB:Hid _:=bl
 clear bl
 have g1:decide (t<0)=false:=by rw[decide_eq_false_iff_not];omega
 have g2:decide (1099511627776<t)=false:=by rw[decide_eq_false_iff_not];omega
 have g3:decide (10<(n:Int))=false:=by rw[decide_eq_false_iff_not];omega
 have g4:decide ((m:Int)<1)=false:=by rw[decide_eq_false_iff_not];omega
 have g5:decide (8<(m:Int))=false:=by rw[decide_eq_false_iff_not];omega
 go_enter Tryz.func208,Tryz.ntmps208
 go_wp2
 clear g1 g2 g3 g4 g5
 go_loopw [3] (fun i wr=>∃ k:Nat,k<=n/\i=.int .i64 k/\Hid ((xs.take k).all rIn=true)/\Below (w.alloc (.cells #[.int .i64 t,.slice ai n c,.slice ap m d] 35)).heap.size (w.alloc (.cells #[.int .i64 t,.slice ai n c,.slice ap m d] 35)) wr) (fun i _=>n-(intOf i).toNat)
 case atStart=>exact⟨0,Nat.zero_le _,rfl,by show List.all _ _=true;simp,Below.refl _ _⟩
 case round=>
  obtain⟨k,hk,rfl,hall,hbl⟩:=hrel
  obtain⟨x0,x1,x2⟩:=box3 hbl
  have hw:=below_blk (HB.out _) hbl
  by_cases hlt:k<n
  ·rcases HX.out with hnil|⟨b,off,rfl,hrow⟩
   ·have:=HN.out;rw[hnil] at this;simp at this;omega
   obtain⟨⟨c0,c1,c2⟩,hok⟩:=(hrow.grown hw) k (by rw[HN.out];exact hlt)
   have HS:Hid _:=all_snoc rIn xs dIn k (by rw[HN.out];exact hlt)
   have HZ:Hid _:=all_no rIn xs dIn k (by rw[HN.out];exact hlt)
   clear hrow
   generalize xs.getD k dIn=y at c0 c1 c2 hok HS HZ
   cases hy:rIn y
   ·go_wp2_with (go_at_call 220;refine(rRightIn_any y _ hok).mono ?_;rintro e w2 ⟨rfl,hb2⟩;simp only[hy])
    go_ret
    exact⟨ret_bool (rTx_noIns (HZ hy)).symm,below_blk hw hb2⟩
   ·go_wp2_with (go_at_call 220;refine(rRightIn_any y _ hok).mono ?_;rintro e w2 ⟨rfl,hb2⟩;simp only[hy])
    go_roundw
    case rel=>exact⟨k+1,by omega,by go_num,by show List.all _ _=true;rw[HS.out,hall.out,hy];rfl,below_blk hbl hb2⟩
    case measure=>simp[intOf];omega
  ·have hallx:=all_done rIn xs n HN.out k (by omega) hall.out
   have HAX:Hid _:=hallx
   clear hallx hall
   go_wp2
   go_loopw [5] (fun i ws=>∃ j:Nat,j<=m/\i=.int .i64 j/\Hid ((ys.take j).all rOut=true)/\Below wr.heap.size wr ws) (fun i _=>m-(intOf i).toNat)
   case atStart=>exact⟨0,Nat.zero_le _,rfl,by show List.all _ _=true;simp,Below.refl _ _⟩
   case round=>
    obtain⟨j,hj,rfl,hall2,hbl2⟩:=hrel
    have hbz:=below_blk hbl hbl2
    obtain⟨z0,z1,z2⟩:=box3 hbz
    have hv:=below_blk hw hbl2
    by_cases hjt:j<m
    ·rcases HY.out with hnil|⟨b,off,rfl,hrow⟩
     ·have:=HM.out;rw[hnil] at this;simp at this;omega
     obtain⟨c0,c1⟩:=(hrow.grown hv) j (by rw[HM.out];exact hjt)
     have HS:Hid _:=all_snoc rOut ys (0,0) j (by rw[HM.out];exact hjt)
     have HZ:Hid _:=all_no rOut ys (0,0) j (by rw[HM.out];exact hjt)
     clear hrow
     generalize ys.getD j (0,0)=y at c0 c1 HS HZ
     obtain⟨ya,yv⟩:=y
     simp only at c0 c1
     cases hy:rOut (ya,yv)
     ·go_wp2_with (go_at_call 204;refine(rRightOut_any _ _ _).mono ?_;rintro e w2 ⟨rfl,hb2⟩;simp only[hy])
      go_ret
      exact⟨ret_bool (rTx_noOuts (HZ hy)).symm,below_blk hv hb2⟩
     ·go_wp2_with (go_at_call 204;refine(rRightOut_any _ _ _).mono ?_;rintro e w2 ⟨rfl,hb2⟩;simp only[hy])
      go_roundw
      case rel=>exact⟨j+1,by omega,by go_num,by show List.all _ _=true;rw[HS.out,hall2.out,hy];rfl,below_blk hbl2 hb2⟩
      case measure=>simp[intOf];omega
    ·go_wp2
     go_ret
     exact⟨ret_bool (rTx_yes ⟨t0,t1⟩ (by rw[HN.out];exact n1) (by rw[HM.out];exact⟨m1,m2⟩) HAX.out.symm (all_done rOut ys m HM j (by omega) hall2.out).symm).symm,hv⟩
theorem rRight_any (t:Int) (ai:OAd) (n c:Nat) (ap:OAd) (m d:Nat) (xs:List InD) (ys:LII) (w:World) (hx:InsAt w ai xs) (hn:xs.length=n) (hy:OutsAt w ap ys) (hm:ys.length=m):
 Calls Tryz.prog 208 #[.agg #[.int .i64 t,.slice ai n c,.slice ap m d]] w fun e w'=>e=.returned (.bool (rTx t xs ys))/\Below w.heap.size w w':=by
 by_cases h:t<0\/1099511627776<t\/10<n\/m<1\/8<m
 ·have e:rTx t xs ys=false:=by
   cases hr:rTx t xs ys
   ·rfl
   ·have:=rTx_parts hr
    rw[hn,hm] at this
    omega
  rw[e]
  exact rRight_no t ai n c ap m d w h
 ·exact rRight_num t ai n c ap m d xs ys w hx hn hy hm (by omega) (by omega) (by omega) (by omega) (by omega)
end
end Go.Proofs.YtffgpepngcnjeabGreat
