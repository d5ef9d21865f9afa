import Derived.Test.YtffgpepngcnjeabGreatSae
namespace Go.Proofs.YtffgpepngcnjeabGreat
set_option maxRecDepth 100000
set_option maxHeartbeats 4000000
section
open Go.RowKit
variable {w w':World} {b off:Nat} {xs:List KeyD}
structure CoinC where
 id:Int
 pos:Int
 to:Int
 val:Int
def dCC:CoinC:=⟨0,0,0,0⟩
def CoinC.l (x:CoinC):List Value:=[.int .i64 x.id,.int .i64 x.pos,.int .i64 x.to,.int .i64 x.val]
theorem coinC4 (x:CoinC):x.l.length=4:=rfl
theorem coinC_one (x:CoinC):∀ u∈x.l,u.oneCell'=true:=by
 intro u hu
 simp[CoinC.l] at hu
 rcases hu with rfl|rfl|rfl|rfl<;>rfl
theorem info209:(Tryz.prog.info? 209).map (fun i=>(i.zero,i.size,i.bytes))=some (some (.agg #[.int .i64 0,.int .i64 0,.int .i64 0,.int .i64 0]),4,32):=by kernel_rfl
def Cel.c (x:Cel):CoinC:=⟨x.id,x.pos,x.to,x.val⟩
def coinsC (xs:List Cel):List CoinC:=(xs.filter fun x=>x.spent== -1).map Cel.c
theorem coinsC_snoc (xs:List Cel) (k:Nat) (h:k<xs.length):coinsC (xs.take (k+1))=coinsC (xs.take k)++(if (xs.getD k dC).spent== -1 then [(xs.getD k dC).c] else []):=by
 unfold coinsC
 rw[List.take_succ_eq_append_getElem h,List.filter_append,List.map_append]
 simp only[List.getD,List.getElem?_eq_getElem h,Option.getD_some]
 congr 1
 simp only[List.filter_cons,List.filter_nil]
 split<;>rfl
theorem coinsC_len (xs:List Cel):(coinsC xs).length<=xs.length:=by
 unfold coinsC
 rw[List.length_map]
 exact List.length_filter_le _ _
abbrev OwnCC (w:World) (base:Nat) (v:Value) (xs:List CoinC):Prop:=OwnRec CoinC.l 209 4 w base v xs
theorem chCoins_any (b o:Nat) (ao:OAd) (n c:Nat) (xs:List Cel) (w:World) (hp:w.cell? ⟨b,o,none⟩=some (.slice ao n c)) (hx:CelsAt w ao xs) (hn:xs.length=n) (hm:n<=1000000):
 Calls Tryz.prog 153 #[.pointer (some ⟨b,o,none⟩)] w fun e w'=>∃ v,e=.returned v/\OwnCC w' w.heap.size v (coinsC xs)/\Below w.heap.size w w':=by
 have HN:=hiD hn
 have HX:=hiD hx
 clear hn hx
 generalize hB:w.heap.size=B
 have HB:=hiD hB
 clear hB
 go_enter Tryz.func153,Tryz.ntmps153
 go_wp2
 go_loopw [3,11] (fun v i wr=>∃ k:Nat,k<=n/\i=.int .i64 k/\OwnCC wr B v (coinsC (xs.take k))/\Below B w wr) (fun _ i _=>n-(intOf i).toNat)
 case atStart=>exact⟨0,Nat.zero_le _,rfl,OwnRec.nil _ _ _ _ _,Below.refl _ _⟩
 case round=>
  obtain⟨k,hk,rfl,hown,hbl⟩:=hrel
  have hsz:=hbl.size
  rw[HB.out] at hsz
  by_cases hlt:k<n
  ·rcases HX.out with hnil|⟨g,off,rfl,hrow⟩
   ·have:=HN.out;rw[hnil] at this;simp at this;omega
   obtain⟨c0,c1,c2,c3,c4,c5⟩:=celCells (hrow.grown (by rw[HB.out];exact hbl)) k (by rw[HN.out];exact hlt)
   have HS:Hid _:=coinsC_snoc xs k (by rw[HN.out];exact hlt)
   have hll:(coinsC (xs.take k)).length<=1000000:=leT (coinsC_len _) (by rw[List.length_take,HN.out];omega)
   have HL:=hiD hll
   clear hrow hll
   generalize coinsC (xs.take k)=L at *
   generalize xs.getD k dC=y at c0 c1 c2 c3 c4 c5 HS
   obtain⟨yid,ypos,yto,yval,ymade,yspent⟩:=y
   simp only at c0 c1 c2 c3 c4 c5
   cases hy:(yspent== -1)
   ·go_wp2
    go_roundw
    case rel=>exact⟨k+1,by omega,by go_num,by have:=HS.out;simp only[hy] at this;rw[this];simpa using hown.alloc _,hbl.alloc hsz _⟩
    case measure=>simp[intOf];omega
   ·have hown1:=hown.alloc (.cells #[.int .i64 yid,.int .i64 ypos,.int .i64 yto,.int .i64 yval,.int .i64 ymade,.int .i64 yspent] 206)
    have hbl1:=hbl.alloc hsz (.cells #[.int .i64 yid,.int .i64 ypos,.int .i64 yto,.int .i64 yval,.int .i64 ymade,.int .i64 yspent] 206)
    go_wp2_with (at_builtin;refine wpList_appR 218 32 _ Tryz.underlying218 info209 rfl (by decide) coinC4 coinC_one ((wr.alloc (.cells #[.int .i64 yid,.int .i64 ypos,.int .i64 yto,.int .i64 yval,.int .i64 ymade,.int .i64 yspent] 206)).alloc (.cells #[.int .i64 yid,.int .i64 ypos,.int .i64 yto,.int .i64 yval] 209)) rfl _ _ rfl B (wr.alloc (.cells #[.int .i64 yid,.int .i64 ypos,.int .i64 yto,.int .i64 yval,.int .i64 ymade,.int .i64 yspent] 206)).heap.size 1 _ L ⟨yid,ypos,yto,yval⟩ (by rfl) (by simp[World.size_alloc];rfl) (hown1.alloc _) (vrow_new _ _ _) (by simp;omega) (by have:=HL.out;unfold maxLen;omega) (by have:=HL.out;omega) ?_;intro g' cap w3 hown4 hg4 _ _)
    go_roundw
    case rel=>exact⟨k+1,by omega,by go_num,by have:=HS.out;simp only[hy] at this;rw[this];exact hown4,hbl1.trans (gb_to_below (gb_trans (gb_alloc _ _ _) hg4) (by simp;omega) (fun q hq=>(hown1.blk q hq).1))⟩
    case measure=>simp[intOf];omega
  ·rw[List.take_of_length_le (by rw[HN.out];omega)] at hown
   go_wp2
   go_ret
   exact⟨_,rfl,hown,hbl⟩
def idxOf {α:Type} (p:α->Bool):List α->Nat->Int
 |[],_=>-1
 |x::r,i=>if p x=true then i else idxOf p r (i+1)
theorem idxOf_drop {α:Type} (p:α->Bool) (l:List α) (d:α) (k i:Nat) (h:k<l.length):idxOf p (l.drop k) i=if p (l.getD k d)=true then(i:Int) else idxOf p (l.drop (k+1)) (i+1):=by
 rw[List.drop_eq_getElem_cons h]
 simp only[List.getD,List.getElem?_eq_getElem h,Option.getD_some]
 rfl
structure KeyCells (w:World) (b off:Nat) (x:KeyD):Prop where
 c0:w.cell? ⟨b,off,none⟩=some (.int .i64 x.br)
 c1:w.cell? ⟨b,off+1,none⟩=some (.int .i64 x.ix)
 c2:w.cell? ⟨b,off+2,none⟩=some (.int .i64 x.ad)
theorem keyCells (h:VRow w b off (xs.flatMap KeyD.l)) (j:Nat) (hj:j<xs.length):KeyCells w b (off+j*3) (xs.getD j dK):=
 ⟨rcell key3 dK h j hj 0 (by omega),rcell key3 dK h j hj 1 (by omega),rcell key3 dK h j hj 2 (by omega)⟩
def firstZ (ks:List KeyD) (a:Int):Int:=idxOf (fun x=>x.ad== a) ks 0
theorem first_any (ao:OAd) (n c:Nat) (ks:List KeyD) (a:Int) (w:World) (hx:RecAt KeyD.l w ao ks) (hn:ks.length=n) (hm:n<=1000000):
 Calls Tryz.prog 154 #[.slice ao n c,.int .i64 a] w fun e w'=>e=.returned (.int .i64 (firstZ ks a))/\Below w.heap.size w w':=by
 have HN:=hiD hn
 have HX:=hiD hx
 clear hn hx
 go_enter Tryz.func154,Tryz.ntmps154
 go_wp2
 go_loopw [9] (fun i wr=>∃ k:Nat,k<=n/\i=.int .i64 k/\Hid (idxOf (fun x:KeyD=>x.ad== a) (ks.drop k) k=firstZ ks a)/\Below w.heap.size w wr) (fun i _=>n-(intOf i).toNat)
 case atStart=>exact⟨0,Nat.zero_le _,rfl,rfl,Below.refl _ _⟩
 case round=>
  obtain⟨k,hk,rfl,hz,hbl⟩:=hrel
  have hsz:=hbl.size
  by_cases hlt:k<n
  ·rcases HX.out with hnil|⟨g,off,rfl,hrow⟩
   ·have:=HN.out;rw[hnil] at this;simp at this;omega
   obtain⟨c0,c1,c2⟩:=keyCells (hrow.grown hbl) k (by rw[HN.out];exact hlt)
   have HS:Hid _:=hz.out
   rw[idxOf_drop _ _ dK k k (by rw[HN.out];exact hlt)] at HS
   clear hrow
   generalize ks.getD k dK=y at c0 c1 c2 HS
   obtain⟨ybr,yix,yad⟩:=y
   simp only at c0 c1 c2
   cases hy:(yad== a)
   ·go_wp2
    go_roundw
    case rel=>exact⟨k+1,by omega,by go_num,by show _=_;have:=HS.out;simp only[hy] at this;simpa using this,hbl.alloc hsz _⟩
    case measure=>simp[intOf];omega
   ·go_wp2
    go_ret
    exact⟨ret_int (by have:=HS.out;simp only[hy] at this;simpa using this),hbl.alloc hsz _⟩
  ·go_wp2
   go_ret
   refine⟨ret_int ?_,hbl⟩
   rw[<-hz.out,List.drop_of_length_le (by rw[HN.out];omega)]
   rfl
theorem idxOf_cases {α:Type} (p:α->Bool) (d:α):∀ (l:List α) (i:Nat),idxOf p l i=-1\/∃ j,j<l.length/\idxOf p l i=((i+j:Nat):Int)/\p (l.getD j d)=true:=by
 intro l
 induction l with
 |nil=>intro i;exact Or.inl rfl
 |cons x r ih=>
  intro i
  unfold idxOf
  by_cases h:p x=true
  ·rw[if_pos h]
   exact Or.inr ⟨0,by simp,by simp,by simpa using h⟩
  ·rw[if_neg h]
   rcases ih (i+1) with h1|⟨j,h1,h2,h3⟩
   ·exact Or.inl h1
   ·exact Or.inr ⟨j+1,by simpa using h1,by rw[h2];omega,by simpa using h3⟩
def isCoin (id pos:Int) (x:Cel):Bool:=x.id== id&&(x.pos== pos&&x.spent== -1)
def findZ (xs:List Cel) (id pos:Int):Int:=idxOf (isCoin id pos) xs 0
theorem findZ_cases (xs:List Cel) (id pos:Int):findZ xs id pos=-1\/∃ j,j<xs.length/\findZ xs id pos=(j:Int)/\isCoin id pos (xs.getD j dC)=true:=by
 rcases idxOf_cases (isCoin id pos) dC xs 0 with h|⟨j,h1,h2,h3⟩
 ·exact Or.inl h
 ·exact Or.inr ⟨j,h1,by rw[findZ,h2];simp,h3⟩
theorem find_any (b o:Nat) (ao:OAd) (n c:Nat) (xs:List Cel) (id pos:Int) (w:World) (hp:w.cell? ⟨b,o,none⟩=some (.slice ao n c)) (hx:CelsAt w ao xs) (hn:xs.length=n) (hm:n<=1000000):
 Calls Tryz.prog 190 #[.pointer (some ⟨b,o,none⟩),.int .i64 id,.int .i64 pos] w fun e w'=>e=.returned (.int .i64 (findZ xs id pos))/\Below w.heap.size w w':=by
 have HN:=hiD hn
 have HX:=hiD hx
 clear hn hx
 go_enter Tryz.func190,Tryz.ntmps190
 go_wp2
 go_loopw [14] (fun i wr=>∃ k:Nat,k<=n/\i=.int .i64 k/\Hid (idxOf (isCoin id pos) (xs.drop k) k=findZ xs id pos)/\Below w.heap.size w wr) (fun i _=>n-(intOf i).toNat)
 case atStart=>exact⟨0,Nat.zero_le _,rfl,rfl,Below.refl _ _⟩
 case round=>
  obtain⟨k,hk,rfl,hz,hbl⟩:=hrel
  have hsz:=hbl.size
  by_cases hlt:k<n
  ·rcases HX.out with hnil|⟨g,off,rfl,hrow⟩
   ·have:=HN.out;rw[hnil] at this;simp at this;omega
   obtain⟨c0,c1,c2,c3,c4,c5⟩:=celCells (hrow.grown hbl) k (by rw[HN.out];exact hlt)
   have HS:Hid _:=hz.out
   rw[idxOf_drop _ _ dC k k (by rw[HN.out];exact hlt)] at HS
   clear hrow
   generalize xs.getD k dC=y at c0 c1 c2 c3 c4 c5 HS
   obtain⟨yid,ypos,yto,yval,ymade,yspent⟩:=y
   simp only at c0 c1 c2 c3 c4 c5
   cases h1:(yid== id)
   ·go_wp2
    go_roundw
    case rel=>exact⟨k+1,by omega,by go_num,by show _=_;have:=HS.out;simp only[isCoin,h1] at this;simpa using this,hbl.alloc hsz _⟩
    case measure=>simp[intOf];omega
   ·cases h2:(ypos== pos)
    ·go_wp2
     go_roundw
     case rel=>exact⟨k+1,by omega,by go_num,by show _=_;have:=HS.out;simp only[isCoin,h1,h2] at this;simpa using this,hbl.alloc hsz _⟩
     case measure=>simp[intOf];omega
    ·cases h3:(yspent== -1)
     ·go_wp2
      go_roundw
      case rel=>exact⟨k+1,by omega,by go_num,by show _=_;have:=HS.out;simp only[isCoin,h1,h2,h3] at this;simpa using this,hbl.alloc hsz _⟩
      case measure=>simp[intOf];omega
     ·go_wp2
      go_ret
      exact⟨ret_int (by have:=HS.out;simp only[isCoin,h1,h2,h3] at this;simpa using this),hbl.alloc hsz _⟩
  ·go_wp2
   go_ret
   refine⟨ret_int ?_,hbl⟩
   rw[<-hz.out,List.drop_of_length_le (by rw[HN.out];omega)]
   rfl
structure SpD where
 pl:Int
 to:Int
 val:Int
 ao:OAd
 n:Nat
 c:Nat
 l:List Int
def dS:SpD:=⟨0,0,0,none,0,0,[]⟩
def SpD.v (x:SpD):List Value:=[.int .i64 x.pl,.int .i64 x.to,.int .i64 x.val,.slice x.ao x.n x.c]
theorem sp4 (x:SpD):x.v.length=4:=rfl
theorem sp_one (x:SpD):∀ u∈x.v,u.oneCell'=true:=by
 intro u hu
 simp[SpD.v] at hu
 rcases hu with rfl|rfl|rfl|rfl<;>rfl
theorem info253:(Tryz.prog.info? 253).map (fun i=>(i.zero,i.size,i.bytes))=some (some (.agg #[.int .i64 0,.int .i64 0,.int .i64 0,.slice none 0 0]),4,48):=by kernel_rfl
structure SpCells (w:World) (b off:Nat) (x:SpD):Prop where
 c0:w.cell? ⟨b,off,none⟩=some (.int .i64 x.pl)
 c1:w.cell? ⟨b,off+1,none⟩=some (.int .i64 x.to)
 c2:w.cell? ⟨b,off+2,none⟩=some (.int .i64 x.val)
 c3:w.cell? ⟨b,off+3,none⟩=some (.slice x.ao x.n x.c)
theorem spCells {xs:List SpD} (h:VRow w b off (xs.flatMap SpD.v)) (j:Nat) (hj:j<xs.length):SpCells w b (off+j*4) (xs.getD j dS):=
 ⟨rcell sp4 dS h j hj 0 (by omega),rcell sp4 dS h j hj 1 (by omega),rcell sp4 dS h j hj 2 (by omega),rcell sp4 dS h j hj 3 (by omega)⟩
def isSp (ss:List SpD) (p:Int):Bool:=ss.any fun x=>x.pl== p
theorem isSpent_any (ao:OAd) (n c:Nat) (ss:List SpD) (a:Int) (w:World) (hx:RecAt SpD.v w ao ss) (hn:ss.length=n) (hm:n<=1000000):
 Calls Tryz.prog 217 #[.slice ao n c,.int .i64 a] w fun e w'=>e=.returned (.bool (isSp ss a))/\Below w.heap.size w w':=by
 have HN:=hiD hn
 have HX:=hiD hx
 clear hn hx
 go_enter Tryz.func217,Tryz.ntmps217
 go_wp2
 go_loopw [9] (fun i wr=>∃ k:Nat,k<=n/\i=.int .i64 k/\Hid ((ss.take k).any (fun x=>x.pl== a)=false)/\Below w.heap.size w wr) (fun i _=>n-(intOf i).toNat)
 case atStart=>exact⟨0,Nat.zero_le _,rfl,by show List.any _ _=false;simp,Below.refl _ _⟩
 case round=>
  obtain⟨k,hk,rfl,hany,hbl⟩:=hrel
  have hsz:=hbl.size
  by_cases hlt:k<n
  ·rcases HX.out with hnil|⟨g,off,rfl,hrow⟩
   ·have:=HN.out;rw[hnil] at this;simp at this;omega
   obtain⟨c0,c1,c2,c3⟩:=spCells (hrow.grown hbl) k (by rw[HN.out];exact hlt)
   have HS:Hid _:=any_no (fun x:SpD=>x.pl== a) ss dS k (by rw[HN.out];exact hlt) hany.out
   have HZ:Hid _:=any_yes (fun x:SpD=>x.pl== a) ss dS k (by rw[HN.out];exact hlt)
   clear hrow
   generalize ss.getD k dS=y at c0 c1 c2 c3 HS HZ
   obtain⟨ypl,yto,yval,yao,yn,yc,yl⟩:=y
   simp only at c0 c1 c2 c3
   cases hy:(ypl== a)
   ·go_wp2
    go_roundw
    case rel=>exact⟨k+1,by omega,by go_num,HS hy,hbl.alloc hsz _⟩
    case measure=>simp[intOf];omega
   ·go_wp2
    go_ret
    exact⟨ret_bool (HZ hy).symm,hbl.alloc hsz _⟩
  ·go_wp2
   go_ret
   exact⟨ret_bool (any_done _ ss n HN k (by omega) hany.out),hbl⟩
def sumSp (ss:List SpD):Int:=(ss.map SpD.val).sum
def sumOu (ys:LII):Int:=(ys.map Prod.snd).sum
theorem sum_snoc {α:Type} (f:α->Int) (l:List α) (d:α) (k:Nat) (h:k<l.length):((l.take (k+1)).map f).sum=((l.take k).map f).sum+f (l.getD k d):=by
 rw[List.take_succ_eq_append_getElem h,List.map_append,List.sum_append_int]
 simp[List.getD,h]
theorem sum_bd {α:Type} (f:α->Int) (M:Int) (l:List α) (hb:∀ x∈l,0<=f x/\f x<=M):0<=(l.map f).sum/\(l.map f).sum<=l.length*M:=by
 induction l with
 |nil=>simp
 |cons x r ih=>
  have h1:=hb x (by simp)
  have h2:=ih (fun y hy=>hb y (by simp[hy]))
  simp only[List.map_cons,List.sum_cons,List.length_cons]
  refine⟨by omega,?_⟩
  have:((r.length+1:Nat):Int)*M=r.length*M+M:=by
   push_cast
   rw[Int.add_mul]
   omega
  omega
def spZ (xs:List Cel):List InD->List SpD->Option (List SpD)
 |[],acc=>some acc
 |i::r,acc=>
  if findZ xs i.id i.pos<0\/isSp acc (findZ xs i.id i.pos)=true then none
  else spZ xs r (acc++[⟨findZ xs i.id i.pos,(xs.getD (findZ xs i.id i.pos).toNat dC).to,(xs.getD (findZ xs i.id i.pos).toNat dC).val,i.ao,i.n,i.c,i.l⟩])
theorem spZ_drop (xs:List Cel) (ins:List InD) (k:Nat) (h:k<ins.length) (acc:List SpD):spZ xs (ins.drop k) acc =
 if findZ xs (ins.getD k dIn).id (ins.getD k dIn).pos<0\/isSp acc (findZ xs (ins.getD k dIn).id (ins.getD k dIn).pos)=true then none
 else spZ xs (ins.drop (k+1)) (acc++[⟨findZ xs (ins.getD k dIn).id (ins.getD k dIn).pos,(xs.getD (findZ xs (ins.getD k dIn).id (ins.getD k dIn).pos).toNat dC).to,(xs.getD (findZ xs (ins.getD k dIn).id (ins.getD k dIn).pos).toNat dC).val,(ins.getD k dIn).ao,(ins.getD k dIn).n,(ins.getD k dIn).c,(ins.getD k dIn).l⟩]):=by
 rw[List.drop_eq_getElem_cons h]
 simp only[List.getD,List.getElem?_eq_getElem h,Option.getD_some]
 rfl
abbrev OwnSp (w:World) (base:Nat) (v:Value) (ss:List SpD):Prop:=OwnRec SpD.v 253 4 w base v ss
theorem spends_any (b o:Nat) (ao:OAd) (n c:Nat) (xs:List Cel) (ai:OAd) (m d:Nat) (ins:List InD) (w:World) (hp:w.cell? ⟨b,o,none⟩=some (.slice ao n c)) (hx:CelsAt w ao xs) (hn:xs.length=n) (hm:n<=1000000) (hi:InsAt w ai ins) (hil:ins.length=m) (hm10:m<=1000):
 Calls Tryz.prog 192 #[.pointer (some ⟨b,o,none⟩),.slice ai m d] w fun e w'=>(∃ v f,e=.returned (.tuple #[v,.bool f])/\(spZ xs ins []=none->f=false)/\(∀ ss,spZ xs ins []=some ss->f=true/\OwnSp w' w.heap.size v ss))/\Below w.heap.size w w':=by
 have HN:=hiD hn
 have HX:=hiD hx
 have HP:=hiD hp
 have HI:=hiD hi
 have HM:=hiD hil
 clear hn hx hp hi hil
 have hpl:=cell_lt HP.out
 generalize hB:w.heap.size=B
 have HB:=hiD hB
 clear hB
 go_enter Tryz.func192,Tryz.ntmps192
 go_wp2
 go_loopw [6,13] (fun v i wr=>∃ (k:Nat) (acc:List SpD),k<=m/\acc.length=k/\i=.int .i64 k/\Hid (spZ xs (ins.drop k) acc=spZ xs ins [])/\OwnSp wr B v acc/\Below B w wr) (fun _ i _=>m-(intOf i).toNat)
 case atStart=>exact⟨0,[],Nat.zero_le _,rfl,rfl,rfl,OwnRec.nil _ _ _ _ _,Below.refl _ _⟩
 case round=>
  obtain⟨k,acc,hk,hacc,rfl,hz,hown,hbl⟩:=hrel
  have hsz:=hbl.size
  rw[HB.out] at hsz
  have HA:=hiD hacc
  clear hacc
  by_cases hlt:k<m
  ·rcases HI.out with hnil|⟨gi,offi,rfl,hrow⟩
   ·have:=HM.out;rw[hnil] at this;simp at this;omega
   obtain⟨⟨i0,i1,i2⟩,_⟩:=(hrow.grown (by rw[HB.out];exact hbl)) k (by rw[HM.out];exact hlt)
   have HZ:Hid _:=hz.out
   rw[spZ_drop xs ins k (by rw[HM.out];exact hlt)] at HZ
   clear hrow
   generalize ins.getD k dIn=y at i0 i1 i2 HZ
   obtain⟨yid,ypos,yao,yn,yc,yl⟩:=y
   simp only at i0 i1 i2
   have hb1:=hbl.alloc hsz (.cells #[.int .i64 yid,.int .i64 ypos,.slice yao yn yc] 115)
   have HP1:Hid ((wr.alloc (.cells #[.int .i64 yid,.int .i64 ypos,.slice yao yn yc] 115)).cell? ⟨b,o,none⟩=some (.slice ao n c)):=(hb1.cell (p:=⟨b,o,none⟩) (by rw[<-HB.out];exact hpl)).trans HP
   have HX1:Hid (CelsAt (wr.alloc (.cells #[.int .i64 yid,.int .i64 ypos,.slice yao yn yc] 115)) ao xs):=HX.out.grown (by rw[HB.out];exact hb1)
   have hown1:=hown.alloc (.cells #[.int .i64 yid,.int .i64 ypos,.slice yao yn yc] 115)
   have hsz1:B<=(wr.alloc (.cells #[.int .i64 yid,.int .i64 ypos,.slice yao yn yc] 115)).heap.size:=by simp;omega
   have cell2:(wr.alloc (.cells #[.int .i64 yid,.int .i64 ypos,.slice yao yn yc] 115)).cell? ⟨wr.heap.size,2,none⟩=some (.slice yao yn yc):=by rw[World.cell?_alloc_new];rfl
   have hlt1:wr.heap.size<(wr.alloc (.cells #[.int .i64 yid,.int .i64 ypos,.slice yao yn yc] 115)).heap.size:=by simp
   go_wp2_with fail
   generalize hw1:wr.alloc (.cells #[.int .i64 yid,.int .i64 ypos,.slice yao yn yc] 115)=w1 at *
   clear hw1
   generalize wr.heap.size=I at *
   clear hown hbl hsz i0 i1 i2
   refine(find_any b o ao n c xs yid ypos _ HP1 HX1 HN hm).mono ?_
   rintro e w2 ⟨rfl,hb2⟩
   have hown2:=OwnRec.grown hown1 hb2
   have hbl2:=hb1.trans (hb2.mono hsz1)
   have hsz2:=leT hsz1 hb2.size
   have cell2':=(hb2.cell (p:=⟨I,2,none⟩) hlt1).trans cell2
   have hltI:I<w2.heap.size:=ltL hlt1 hb2.size
   have HP2:Hid (w2.cell? ⟨b,o,none⟩=some (.slice ao n c)):=(hb2.cell (p:=⟨b,o,none⟩) (cell_lt HP1.out)).trans HP1.out
   have HX2:=hiD (HX1.out.grown hb2)
   clear hown1 hb1 hb2 hsz1 HP1 HX1 cell2 hlt1
   rcases findZ_cases xs yid ypos with hf|⟨q,hq,hf,_⟩
   ·rw[hf] at HZ ⊢
    have HZ':Hid (spZ xs ins []=none):=by
     show _=_
     have:=HZ.out
     rw[if_pos (Or.inl (by omega))] at this
     exact this.symm
    clear HZ
    go_wp2
    go_ret2
    exact⟨⟨_,_,rfl,fun _=>rfl,fun ss hss=>(by rw[HZ'.out] at hss;cases hss)⟩,hbl2⟩
   ·rw[hf] at HZ ⊢
    have hqn:q<n:=by rw[<-HN.out];exact hq
    clear hf
    obtain⟨av,cv,rfl,hat⟩:=OwnRec.at sp4 hown2
    rw[HA.out] at hown2 ⊢
    cases hsp:isSp acc (q:Int)
    ·have HZ':Hid _:=HZ.out
     rw[if_neg (by rw[hsp];simp),show((q:Int)).toNat=q from Int.toNat_natCast q] at HZ'
     clear HZ
     go_wp2_with fail
     refine(isSpent_any av k cv acc (q:Int) _ hat HA.out (by omega)).mono ?_
     rintro e w3 ⟨rfl,hb3⟩
     rw[hsp]
     have hown3:=OwnRec.grown hown2 hb3
     have hbl3:=hbl2.trans (hb3.mono hsz2)
     have hsz3:=leT hsz2 hb3.size
     have cell3:=(hb3.cell (p:=⟨I,2,none⟩) hltI).trans cell2'
     have hltI3:I<w3.heap.size:=ltL hltI hb3.size
     have hp3:=(hb3.cell (p:=⟨b,o,none⟩) (cell_lt HP2.out)).trans HP2.out
     have HX3:=hiD (HX2.out.grown hb3)
     rcases HX3.out with hnil|⟨gx,offx,rfl,hrowx⟩
     ·have:=HN.out;rw[hnil] at this;simp at this;omega
     obtain⟨x0,x1,x2,x3,x4,x5⟩:=celCells hrowx q hq
     generalize xs.getD q dC=y at x0 x1 x2 x3 x4 x5 HZ'
     obtain⟨zid,zpos,zto,zval,zmade,zspent⟩:=y
     simp only at x0 x1 x2 x3 x4 x5
     clear hown2 hbl2 hb3 hsz2 cell2' hltI HP2 HX2 hat HX3 hrowx hsp
     have hown4:=hown3.alloc (.cells #[.int .i64 zid,.int .i64 zpos,.int .i64 zto,.int .i64 zval,.int .i64 zmade,.int .i64 zspent] 206)
     have hbl4:=hbl3.alloc hsz3 (.cells #[.int .i64 zid,.int .i64 zpos,.int .i64 zto,.int .i64 zval,.int .i64 zmade,.int .i64 zspent] 206)
     go_wp2_with (at_builtin;refine wpList_appR 246 48 _ Tryz.underlying246 info253 rfl (by decide) sp4 sp_one ((w3.alloc (.cells #[.int .i64 zid,.int .i64 zpos,.int .i64 zto,.int .i64 zval,.int .i64 zmade,.int .i64 zspent] 206)).alloc (.cells #[.int .i64 q,.int .i64 zto,.int .i64 zval,.slice yao yn yc] 253)) rfl _ _ rfl B (w3.alloc (.cells #[.int .i64 zid,.int .i64 zpos,.int .i64 zto,.int .i64 zval,.int .i64 zmade,.int .i64 zspent] 206)).heap.size 1 _ acc ⟨q,zto,zval,yao,yn,yc,yl⟩ (by rfl) (by simp[World.size_alloc];rfl) (hown4.alloc _) (vrow_new _ _ _) (by simp;omega) (by rw[HA.out];unfold maxLen;omega) (by rw[HA.out];omega) ?_;intro g' cap w5 hown5 hg5 _ _)
     go_roundw
     case rel=>exact⟨k+1,acc++[⟨q,zto,zval,yao,yn,yc,yl⟩],by omega,by rw[List.length_append,HA.out];rfl,by go_num,HZ',hown5,hbl4.trans (gb_to_below (gb_trans (gb_alloc _ _ _) hg5) (by simp;omega) (fun r hr=>(hown4.blk r hr).1))⟩
     case measure=>simp[intOf];omega
    ·have HZ':Hid (spZ xs ins []=none):=by
      show _=_
      have:=HZ.out
      rw[if_pos (Or.inr hsp)] at this
      exact this.symm
     clear HZ
     go_wp2_with (go_at_call 217;refine(isSpent_any av k cv acc (q:Int) _ hat HA.out (by omega)).mono ?_;rintro e w3 ⟨rfl,hb3⟩;rw[hsp])
     go_ret2
     exact⟨⟨_,_,rfl,fun _=>rfl,fun ss hss=>(by rw[HZ'.out] at hss;cases hss)⟩,hbl2.trans (hb3.mono hsz2)⟩
  ·have hz':=hz.out
   rw[List.drop_of_length_le (by rw[HM.out];omega)] at hz'
   have HZ:=hiD hz'
   clear hz' hz
   go_wp2
   go_ret2
   exact⟨⟨_,_,rfl,fun h=>(by rw[<-HZ.out] at h;cases h),fun ss hss=>(by rw[<-HZ.out] at hss;cases hss;exact⟨rfl,hown⟩)⟩,hbl⟩
structure SpOk (w:World) (x:SpD):Prop where
 lies:IntsAt w x.ao x.l
 len:x.l.length=x.n
 sz:x.n<=17592186044416
theorem SpOk.grown {x:SpD} (h:SpOk w x) (hb:Below w.heap.size w w'):SpOk w' x:=⟨h.lies.grown hb,h.len,h.sz⟩
def opens (id:Int) (x:SpD):Bool:=isS x.l&&(Mk.opn id x.l== x.to)
theorem allOpen_any (ao:OAd) (n c:Nat) (ss:List SpD) (id:Int) (w:World) (hid:Mk.isM id=true) (hx:RecAt SpD.v w ao ss) (hn:ss.length=n) (hm:n<=1000000) (hok:∀ j,j<n->SpOk w (ss.getD j dS)):
 Calls Tryz.prog 193 #[.slice ao n c,.int .i64 id] w fun e w'=>e=.returned (.bool (ss.all (opens id)))/\Below w.heap.size w w':=by
 have HN:=hiD hn
 have HX:=hiD hx
 have HO:=hiD hok
 clear hn hx hok
 go_enter Tryz.func193,Tryz.ntmps193
 go_wp2
 go_loopw [11] (fun i wr=>∃ k:Nat,k<=n/\i=.int .i64 k/\Hid ((ss.take k).all (opens id)=true)/\Below w.heap.size w wr) (fun i _=>n-(intOf i).toNat)
 case atStart=>exact⟨0,Nat.zero_le _,rfl,by show List.all _ _=true;simp,Below.refl _ _⟩
 case round=>
  obtain⟨k,hk,rfl,hall,hbl⟩:=hrel
  have hsz:=hbl.size
  by_cases hlt:k<n
  ·rcases HX.out with hnil|⟨g,off,rfl,hrow⟩
   ·have:=HN.out;rw[hnil] at this;simp at this;omega
   obtain⟨c0,c1,c2,c3⟩:=spCells (hrow.grown hbl) k (by rw[HN.out];exact hlt)
   have HS:Hid _:=all_snoc (opens id) ss dS k (by rw[HN.out];exact hlt)
   have HZ:Hid _:=all_no (opens id) ss dS k (by rw[HN.out];exact hlt)
   have HK:Hid _:=(HO.out k hlt).grown hbl
   clear hrow
   generalize ss.getD k dS=y at c0 c1 c2 c3 HS HZ HK
   obtain⟨ypl,yto,yval,yao,yn,yc,yl⟩:=y
   simp only at c0 c1 c2 c3
   obtain⟨k1,k2,k3⟩:=HK.out
   simp only at k1 k2 k3
   have hb1:=hbl.alloc hsz (.cells #[.int .i64 ypl,.int .i64 yto,.int .i64 yval,.slice yao yn yc] 253)
   have HL:Hid (IntsAt (wr.alloc (.cells #[.int .i64 ypl,.int .i64 yto,.int .i64 yval,.slice yao yn yc] 253)) yao yl):=k1.grown (bAl _ _)
   have HKL:=hiD k2
   have cell1:(wr.alloc (.cells #[.int .i64 ypl,.int .i64 yto,.int .i64 yval,.slice yao yn yc] 253)).cell? ⟨wr.heap.size,1,none⟩=some (.int .i64 yto):=by rw[World.cell?_alloc_new];rfl
   have hlt1:wr.heap.size<(wr.alloc (.cells #[.int .i64 ypl,.int .i64 yto,.int .i64 yval,.slice yao yn yc] 253)).heap.size:=by simp
   clear k1 k2 HK
   cases hs:isS yl
   ·go_wp2_with (go_at_call 95;refine(open_noSeal id yao yn yc yl _ hid HL HKL (by omega) hs).mono ?_;rintro e w2 ⟨rfl,rfl⟩)
    go_ret
    exact⟨ret_bool (HZ (by simp[opens,hs])).symm,hb1⟩
   ·go_wp2_with fail
    generalize hw1:wr.alloc (.cells #[.int .i64 ypl,.int .i64 yto,.int .i64 yval,.slice yao yn yc] 253)=w1 at *
    clear hw1
    generalize wr.heap.size=I at *
    refine(open_yes id yao yn yc yl _ hid HL HKL hs).mono ?_
    rintro e w2 ⟨rfl,hb2⟩
    have cell2:=(hb2.cell (p:=⟨I,1,none⟩) hlt1).trans cell1
    have hbl2:=hb1.trans (hb2.mono hb1.size)
    clear cell1 hlt1 c0 c1 c2 c3 hb1 hb2 HL
    cases ho:(Mk.opn id yl== yto)
    ·go_wp2
     go_ret
     exact⟨ret_bool (HZ (by simp[opens,ho])).symm,hbl2⟩
    ·go_wp2
     go_roundw
     case rel=>exact⟨k+1,by omega,by go_num,by show List.all _ _=true;rw[HS.out,hall.out];simp[opens,hs,ho],hbl2⟩
     case measure=>simp[intOf];omega
  ·go_wp2
   go_ret
   exact⟨ret_bool (all_done (opens id) ss n HN k (by omega) hall.out),hbl⟩
theorem sumSpends_any (ao:OAd) (n c:Nat) (ss:List SpD) (w:World) (hx:RecAt SpD.v w ao ss) (hn:ss.length=n) (hm:n<=1000) (hb:∀ x∈ss,0<=x.val/\x.val<=1099511627776):
 Calls Tryz.prog 194 #[.slice ao n c] w fun e w'=>e=.returned (.int .i64 (sumSp ss))/\Below w.heap.size w w':=by
 have HN:=hiD hn
 have HX:=hiD hx
 have HBd:=hiD hb
 clear hn hx hb
 go_enter Tryz.func194,Tryz.ntmps194
 go_wp2
 go_loopw [3,8] (fun v i wr=>∃ (k:Nat) (S:Int),k<=n/\i=.int .i64 k/\v=.int .i64 S/\Hid (((ss.take k).map SpD.val).sum=S)/\Below w.heap.size w wr) (fun _ i _=>n-(intOf i).toNat)
 case atStart=>exact⟨0,0,Nat.zero_le _,rfl,rfl,rfl,Below.refl _ _⟩
 case round=>
  obtain⟨k,S,hk,rfl,rfl,hS,hbl⟩:=hrel
  have hsz:=hbl.size
  by_cases hlt:k<n
  ·rcases HX.out with hnil|⟨g,off,rfl,hrow⟩
   ·have:=HN.out;rw[hnil] at this;simp at this;omega
   obtain⟨c0,c1,c2,c3⟩:=spCells (hrow.grown hbl) k (by rw[HN.out];exact hlt)
   have HS:Hid _:=sum_snoc SpD.val ss dS k (by rw[HN.out];exact hlt)
   have hSb:=sum_bd SpD.val 1099511627776 (ss.take k) (fun x hx=>HBd.out x (List.mem_of_mem_take hx))
   have hyb:=HBd.out (ss.getD k dS) (by
    have h':k<ss.length:=by rw[HN.out];exact hlt
    simp only[List.getD,List.getElem?_eq_getElem h',Option.getD_some]
    exact List.getElem_mem h')
   rw[hS.out] at hSb
   have hl2:(ss.take k).length<=1000:=by rw[List.length_take];omega
   have hS2:0<=S/\S<=1100000000000000:=⟨hSb.1,by omega⟩
   clear hrow hSb hl2
   generalize ss.getD k dS=y at c0 c1 c2 c3 HS hyb
   obtain⟨ypl,yto,yval,yao,yn,yc,yl⟩:=y
   simp only at c0 c1 c2 c3 hyb
   go_wp2
   go_roundw
   case rel=>exact⟨k+1,S+yval,by omega,by go_num,rfl,by show _=_;rw[HS.out,hS.out],hbl.alloc hsz _⟩
   case measure=>simp[intOf];omega
  ·go_wp2
   go_ret
   refine⟨ret_int ?_,hbl⟩
   rw[<-hS.out,List.take_of_length_le (by rw[HN.out];omega)]
   rfl
theorem sumOuts_any (ao:OAd) (n c:Nat) (ys:LII) (w:World) (hx:OutsAt w ao ys) (hn:ys.length=n) (hm:n<=1000) (hb:∀ x∈ys,0<=x.2/\x.2<=1099511627776):
 Calls Tryz.prog 195 #[.slice ao n c] w fun e w'=>e=.returned (.int .i64 (sumOu ys))/\Below w.heap.size w w':=by
 have HN:=hiD hn
 have HX:=hiD hx
 have HBd:=hiD hb
 clear hn hx hb
 go_enter Tryz.func195,Tryz.ntmps195
 go_wp2
 go_loopw [3,8] (fun v i wr=>∃ (k:Nat) (S:Int),k<=n/\i=.int .i64 k/\v=.int .i64 S/\Hid (((ys.take k).map Prod.snd).sum=S)/\Below w.heap.size w wr) (fun _ i _=>n-(intOf i).toNat)
 case atStart=>exact⟨0,0,Nat.zero_le _,rfl,rfl,rfl,Below.refl _ _⟩
 case round=>
  obtain⟨k,S,hk,rfl,rfl,hS,hbl⟩:=hrel
  have hsz:=hbl.size
  by_cases hlt:k<n
  ·rcases HX.out with hnil|⟨g,off,rfl,hrow⟩
   ·have:=HN.out;rw[hnil] at this;simp at this;omega
   obtain⟨c0,c1⟩:=(hrow.grown hbl) k (by rw[HN.out];exact hlt)
   have HS:Hid _:=sum_snoc Prod.snd ys (0,0) k (by rw[HN.out];exact hlt)
   have hSb:=sum_bd Prod.snd 1099511627776 (ys.take k) (fun x hx=>HBd.out x (List.mem_of_mem_take hx))
   have hyb:=HBd.out (ys.getD k (0,0)) (by
    have h':k<ys.length:=by rw[HN.out];exact hlt
    simp only[List.getD,List.getElem?_eq_getElem h',Option.getD_some]
    exact List.getElem_mem h')
   rw[hS.out] at hSb
   have hl2:(ys.take k).length<=1000:=by rw[List.length_take];omega
   have hS2:0<=S/\S<=1100000000000000:=⟨hSb.1,by omega⟩
   clear hrow hSb hl2
   generalize ys.getD k (0,0)=y at c0 c1 HS hyb
   obtain⟨yto,yval⟩:=y
   simp only at c0 c1 hyb
   go_wp2
   go_roundw
   case rel=>exact⟨k+1,S+yval,by omega,by go_num,rfl,by show _=_;rw[HS.out,hS.out],hbl.alloc hsz _⟩
   case measure=>simp[intOf];omega
  ·go_wp2
   go_ret
   refine⟨ret_int ?_,hbl⟩
   rw[<-hS.out,List.take_of_length_le (by rw[HN.out];omega)]
   rfl
end
section
open Go.RowKit

variable {Ex:List (Nat×Value)}
structure Fr (E:NPr) (w w':World):Prop where
 os:w'.os=w.os
 tape:w'.tape=w.tape
 output:w'.output=w.output
 size:w.heap.size<=w'.heap.size
 block:∀ k,k<w.heap.size->¬E k->w'.heap[k]?=w.heap[k]?
theorem Fr.refl (E:NPr) (w:World):Fr E w w:=⟨rfl,rfl,rfl,leR,fun _ _ _=>rfl⟩
theorem Fr.trans {E:NPr} {a b c:World} (h:Fr E a b) (k:Fr E b c):Fr E a c:=
 ⟨k.os.trans h.os,k.tape.trans h.tape,k.output.trans h.output,leT h.size k.size,fun i hi he=>(k.block i (ltL hi h.size) he).trans (h.block i hi he)⟩
theorem Fr.weak {E F:NPr} {w w':World} (h:Fr E w w') (hs:∀ k,k<w.heap.size->E k->F k):Fr F w w':=
 ⟨h.os,h.tape,h.output,h.size,fun k hk he=>h.block k hk (fun e=>he (hs k hk e))⟩
theorem Fr.of_below {w w':World} (h:Below w.heap.size w w') (E:NPr):Fr E w w':=⟨h.os,h.tape,h.output,h.size,fun k hk _=>h.block k hk⟩
theorem Fr.of_gb {w w':World} {row:Option Nat} (h:w.grownBy w' row) {E:NPr} (hE:∀ k,row=some k->k<w.heap.size->E k):Fr E w w':=
 ⟨h.os,h.tape,h.output,h.size,fun k hk he=>h.block k hk (fun e=>he (hE k e.symm hk))⟩
theorem Fr.drew {E:NPr} {w w':World} (h:Fr E w w'):Fr E w w'.drew:=⟨h.os,h.tape,h.output,h.size,h.block⟩
theorem Fr.alloc {E:NPr} {w w':World} (h:Fr E w w') (o:Obj):Fr E w (w'.alloc o):=h.trans (Fr.of_below (bAl _ _) E)
theorem Fr.set {E:NPr} {w w':World} (h:Fr E w w') (g o:Nat) (v:Value) (hE:g<w.heap.size->E g):Fr E w (w'.setCell ⟨g,o,none⟩ v):=by
 refine⟨h.os,h.tape,h.output,by simpa using h.size,fun k hk he=>?_⟩
 rw[Below.heap_setCell w' ⟨g,o,none⟩ v k (fun e=>he (by simp only at e;rw[e];exact hE (by rw[<-e];exact hk)))]
 exact h.block k hk he
theorem Fr.toBelow {E:NPr} {w w':World} (h:Fr E w w') (B:Nat) (hB:B<=w.heap.size) (hE:∀ k,E k->B<=k):Below B w w':=
 ⟨h.os,h.tape,h.output,h.size,fun k hk=>h.block k (by omega) (fun e=>by have:=hE k e;omega)⟩
theorem Fr.cell {E:NPr} {w w':World} (h:Fr E w w') {b o:Nat} {v:Value} (hc:w.cell? ⟨b,o,none⟩=some v) (he:¬E b):w'.cell? ⟨b,o,none⟩=some v:=by
 rw[World.cell?_of_block (h.block b (cell_lt hc) he)];exact hc
theorem Fr.frozen {E:NPr} {w w':World} (h:Fr E w w') {b o:Nat} (hb:b<w.heap.size) (he:¬E b):w'.frozen? ⟨b,o,none⟩=w.frozen? ⟨b,o,none⟩:=
 World.frozen?_of_block (h.block b hb he)
theorem Fr.vrow {E:NPr} {w w':World} (h:Fr E w w') {b off:Nat} {l:List Value} (hr:VRow w b off l) (he:¬E b):VRow w' b off l:=fun j hj=>h.cell (hr j hj) he
theorem Fr.row {E:NPr} {w w':World} (h:Fr E w w') {b off:Nat} {l:List Int} (hr:Row w b off l) (he:¬E b):Row w' b off l:=fun j hj=>h.cell (hr j hj) he
theorem Fr.own {E:NPr} {w w':World} (h:Fr E w w') {base e size:Nat} {v:Value} {n:Nat} {cs:List Value} (ho:w.ownsRow base e size v n cs) (hne:∀ k,v.ownBlock=some k->¬E k):w'.ownsRow base e size v n cs:=by
 have hb:=owns_blk ho
 obtain⟨h1,h2|⟨g,cap,cur,rfl,hbg,hg,hn⟩⟩:=ho
 ·exact⟨h1,Or.inl h2⟩
 ·exact⟨h1,Or.inr ⟨g,cap,cur,rfl,hbg,(h.block g (hb g rfl).2 (hne g rfl)).trans hg,hn⟩⟩
def chE (b:Nat) (v:Value) (k:Nat):Prop:=k=b\/v.ownBlock=some k
structure ChOwn (Ex:List (Nat×Value)) (w:World) (b o:Nat) (v:Value) (h:Int) (xs:List Cel):Prop where
 c0:w.cell? ⟨b,o,none⟩=some v
 c1:w.cell? ⟨b,o+1,none⟩=some (.int .i64 h)
 f0:w.frozen? ⟨b,o,none⟩=false
 f1:∀ j,w.frozen? ⟨b,j,none⟩=false
 own:OwnRec Cel.l 206 6 w (b+1) v xs
 ext:∀ q∈Ex,q.1≠o/\q.1≠o+1/\w.cell? ⟨b,q.1,none⟩=some q.2
theorem ChOwn.fr {E:NPr} {w w':World} (hf:Fr E w w') {b o:Nat} {v:Value} {h:Int} {xs:List Cel} (hc:ChOwn Ex w b o v h xs) (he:∀ k,chE b v k->¬E k):ChOwn Ex w' b o v h xs:=by
 have hb:=he b (Or.inl rfl)
 have hl:=cell_lt hc.c0
 exact⟨hf.cell hc.c0 hb,hf.cell hc.c1 hb,(hf.frozen hl hb).trans hc.f0,fun j=>(hf.frozen hl hb).trans (hc.f1 j),hf.own hc.own (fun k hk=>he k (Or.inr hk)),fun q hq=>⟨(hc.ext q hq).1,(hc.ext q hq).2.1,hf.cell (hc.ext q hq).2.2 hb⟩⟩
theorem ChOwn.grown {w w':World} (hb:Below w.heap.size w w') {b o:Nat} {v:Value} {h:Int} {xs:List Cel} (hc:ChOwn Ex w b o v h xs):ChOwn Ex w' b o v h xs:=
 hc.fr (Fr.of_below hb (fun _=>False)) (fun _ _ h=>h)
theorem ChOwn.blk {w:World} {b o:Nat} {v:Value} {h:Int} {xs:List Cel} (hc:ChOwn Ex w b o v h xs):∀ k,chE b v k->b<=k/\k<w.heap.size:=by
 intro k hk
 rcases hk with rfl|hk
 ·exact⟨leR,cell_lt hc.c0⟩
 ·have:=hc.own.blk k hk;omega
theorem ChOwn.at {w:World} {b o:Nat} {v:Value} {h:Int} {xs:List Cel} (hc:ChOwn Ex w b o v h xs):∃ ao c,v=.slice ao xs.length c/\CelsAt w ao xs:=hc.own.at cel6
structure ChStep (b:Nat) (v v':Value) (w w':World):Prop where
 fr:Fr (chE b v) w w'
 own:∀ k,v'.ownBlock=some k->v.ownBlock=some k\/w.heap.size<=k
theorem ChStep.of_below {w w':World} (h:Below w.heap.size w w') (b:Nat) (v:Value):ChStep b v v w w':=⟨Fr.of_below h _,fun _ hk=>Or.inl hk⟩
theorem ChStep.refl (b:Nat) (v:Value) (w:World):ChStep b v v w w:=⟨Fr.refl _ _,fun _ hk=>Or.inl hk⟩
theorem ChStep.trans {b:Nat} {v v1 v2:Value} {w w1 w2:World} (h:ChStep b v v1 w w1) (k:ChStep b v1 v2 w1 w2):ChStep b v v2 w w2:=by
 refine⟨⟨k.fr.os.trans h.fr.os,k.fr.tape.trans h.fr.tape,k.fr.output.trans h.fr.output,leT h.fr.size k.fr.size,fun i hi he=>?_⟩,fun i hi=>?_⟩
 ·refine(k.fr.block i (ltL hi h.fr.size) (fun e=>he ?_)).trans (h.fr.block i hi he)
  rcases e with e|e
  ·exact Or.inl e
  ·rcases h.own i e with e'|e'
   ·exact Or.inr e'
   ·omega
 ·rcases k.own i hi with e|e
  ·exact h.own i e
  ·exact Or.inr (leT h.fr.size e)
theorem OwnRec.put {α:Type} {f:α->List Value} {e k:Nat} (hf:∀ x,(f x).length=k) {w:World} {base g c:Nat} {xs:List α} (h:OwnRec f e k w base (.slice (some ⟨g,0,none⟩) xs.length c) xs) (q i:Nat) (hq:q<xs.length) (hi:i<k) (u:Value) (y:α) (hy:(f (xs[q])).set i u=f y):
 OwnRec f e k (w.setCell ⟨g,q*k+i,none⟩ u) base (.slice (some ⟨g,0,none⟩) xs.length c) (xs.set q y):=by
 have hs:=(World.ownsRow.stored h (q*k+i) u).1
 unfold OwnRec
 rw[List.length_set]
 have e1:(xs.flatMap f).set (q*k+i) u=(xs.set q y).flatMap f:=by
  clear h hs
  induction xs generalizing q with
  |nil=>simp at hq
  |cons x r ih=>
   cases q with
   |zero=>
    simp only[List.getElem_cons_zero] at hy
    rw[List.flatMap_cons,List.set_cons_zero,List.flatMap_cons,<-hy,Nat.zero_mul,Nat.zero_add,List.set_append_left _ _ (by rw[hf];exact hi)]
   |succ q=>
    simp only[List.getElem_cons_succ] at hy
    rw[List.flatMap_cons,List.set_cons_succ,List.flatMap_cons,<-ih q (by simpa using hq) hy,List.set_append_right _ _ (by rw[hf,Nat.succ_mul];omega),hf,show(q+1)*k+i-k=q*k+i by rw[Nat.succ_mul];omega]
 rw[<-e1]
 exact hs
end
end Go.Proofs.YtffgpepngcnjeabGreat
