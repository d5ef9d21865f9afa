import Derived.Test.YtffgpepngcnjeabGreatRows
import Derived.WalkSpells
import Derived.WalkLawsBesides
import Derived.Handy
import Derived.Deep.RegionHeld3
namespace Go.Proofs.YtffgpepngcnjeabGreat
abbrev LII:=List (Int×Int)
abbrev OAd:=Option Addr
abbrev NPr:=Nat->Prop
abbrev NtN:=Nat->Nat
theorem hiD {p:Prop} (h:p):Go.RowKit.Hid p:=h
theorem bAl (w:World) (o:Obj):Go.RowKit.Below w.heap.size w (w.alloc o):=(Go.RowKit.Below.refl _ _).alloc (Nat.le_refl _) _
theorem leR {n:Nat}:n<=n:=Nat.le_refl n
theorem ltL {a b c:Nat} (h:a<b) (k:b<=c):a<c:=Nat.lt_of_lt_of_le h k
theorem leT {a b c:Nat} (h:a<=b) (k:b<=c):a<=c:=Nat.le_trans h k
set_option maxRecDepth 100000
set_option maxHeartbeats 2000000
namespace Mk
def mx (h x:Int):Int:=(1009*h+x) % 99991
def tn (x:Int):Int:=(x*x+7) % 99991
def tnN (x:Int):Nat->Int
  |0=>x
  |n+1=>tn (tnN x n)
def sec (s b i:Int) (j:Nat):Int:=tn (mx (mx (mx s b) i) (j:Int))
def d0 (id:Int):Int:=id / 64 % 8
def d1 (id:Int):Int:=id / 8 % 8
def d2 (id:Int):Int:=id % 8
def lk (id:Int):Int:=21-d0 id-d1 id-d2 id
def dg (id:Int):Nat->Int
  |0=>d0 id
  |1=>d1 id
  |2=>d2 id
  |3=>lk id / 8
  |_=>lk id % 8
def mixL (h:Int):List Int->Int
  |[]=>h
  |x::r=>mixL (mx h x) r
def isM (x:Int):Bool:=decide (0<=x/\x<99991)
def isK (s b i:Int):Bool:=decide ((b=0\/b=1)/\(0<=i/\i<100)/\(0<=s/\s<99991))
def adr (s b i:Int):Int:=mixL 1 ((List.range 5).map fun j=>tnN (sec s b i j) 7)
def sealL (s b i id:Int):List Int:=(List.range 5).map fun j=>tnN (sec s b i j) (dg id j).toNat
def opn (id:Int) (l:List Int):Int:=mixL 1 ((List.range 5).map fun j=>tnN (l.getD j 0) (7-dg id j).toNat)
theorem mx_bd (h x:Int):0<=mx h x/\mx h x<99991:=by unfold mx;omega
theorem tn_bd (x:Int):0<=tn x/\tn x<99991:=by unfold tn;omega
theorem tnN_bd (x:Int) (h0:0<=x) (h1:x<99991) (n:Nat):0<=tnN x n/\tnN x n<99991:=by
  cases n with
  |zero=>exact⟨h0,h1⟩
  |succ n=>exact tn_bd _
theorem sec_bd (s b i:Int) (j:Nat):0<=sec s b i j/\sec s b i j<99991:=tn_bd _
theorem d_bd (id:Int):(0<=d0 id/\d0 id<=7)/\(0<=d1 id/\d1 id<=7)/\(0<=d2 id/\d2 id<=7)/\(0<=lk id/\lk id<=21):=by
  unfold lk d0 d1 d2;omega
theorem dg_bd (id:Int) (j:Nat):0<=dg id j/\dg id j<=7:=by
  have h:=d_bd id
  unfold dg
  split<;>omega
theorem mixL_bd (h:Int) (l:List Int) (h0:0<=h) (h1:h<99991):0<=mixL h l/\mixL h l<99991:=by
  induction l generalizing h with
  |nil=>exact⟨h0,h1⟩
  |cons x r ih=>exact ih _ (mx_bd h x).1 (mx_bd h x).2
theorem mixL_append (h:Int) (l r:List Int):mixL h (l++r)=mixL (mixL h l) r:=by
  induction l generalizing h with
  |nil=>rfl
  |cons x l ih=>exact ih _
theorem sealL_len (s b i id:Int):(sealL s b i id).length=5:=by simp[sealL]
theorem isM_iff (x:Int):isM x=true↔(0<=x/\x<99991):=by simp[isM]
theorem isM_no (x:Int):isM x=false↔(x<0\/99991<=x):=by
  unfold isM;rw[decide_eq_false_iff_not];omega
def pk (c n:Int):Int:=(if c<0 then -(c+1) else c) % n
end Mk
section
open Go.RowKit
variable {a x y s i c:Int} {b off B n k base g B1 B2 B3:Nat} {w w' w1 w2 W wr:World} {v:Value} {l:List Int} {ao:OAd} {E:Prop}
theorem ret_int {k:IntKind} {b:Int} (h:a=b):Ending.returned (.int k a)=.returned (.int k b):=by rw[h]
theorem ret_bool {a b:Bool} (h:a=b):Ending.returned (.bool a)=.returned (.bool b):=by rw[h]
theorem mix_any (h x:Int) (w:World) (h0:0<=h) (h1:h<99991) (x0:0<=x) (x1:x<=1099511627776):
 Calls Tryz.prog 143 #[.int .i64 h,.int .i64 x] w fun e w'=>e=.returned (.int .i64 (Mk.mx h x))/\w=w':=by
 go_enter Tryz.func143,Tryz.ntmps143
 go_wp2
 go_ret
 exact⟨ret_int (by unfold Mk.mx;rfl),rfl⟩
theorem sq_bd (h0:0<=x) (h1:x<99991):0<=x*x/\x*x<=9998000100:=by
 have a:=Int.mul_le_mul (show x<=99990 by omega) (show x<=99990 by omega) h0 (by omega)
 exact⟨Int.mul_nonneg h0 h0,by omega⟩
theorem turn_any (x:Int) (w:World) (h0:0<=x) (h1:x<99991):
 Calls Tryz.prog 184 #[.int .i64 x] w fun e w'=>e=.returned (.int .i64 (Mk.tn x))/\w=w':=by
 have hb:=sq_bd h0 h1
 go_enter Tryz.func184,Tryz.ntmps184
 go_wp2
 go_ret
 exact⟨ret_int (by unfold Mk.tn;rfl),rfl⟩
theorem times_any (x n:Int) (w:World) (h0:0<=x) (h1:x<99991) (n0:0<=n) (n1:n<=7):
 Calls Tryz.prog 128 #[.int .i64 x,.int .i64 n] w fun e w'=>e=.returned (.int .i64 (Mk.tnN x n.toNat))/\w=w':=by
 go_enter Tryz.func128,Tryz.ntmps128
 go_wp2
 go_loop [0,5] (fun v i=>∃ k:Nat,(k:Int)<=n/\i=.int .i64 k/\v=.int .i64 (Mk.tnN x k)) (fun _ i=>(n-intOf i).toNat)
 case atStart=>exact⟨0,by omega,rfl,rfl⟩
 case round=>
  obtain⟨k,hk,rfl,rfl⟩:=hrel
  have hb:=Mk.tnN_bd x h0 h1 k
  by_cases hlt:(k:Int)<n
  ·go_wp2_with (go_at_call 184;refine(turn_any _ _ (by omega) (by omega)).mono ?_;rintro e w' ⟨rfl,rfl⟩)
   go_round
   case rel=>exact⟨k+1,by omega,by go_num,rfl⟩
   case measure=>simp[intOf];omega
  ·go_wp2
   go_ret
   exact⟨ret_int (by rw[show n.toNat=k by omega]),rfl⟩
theorem is_any (x:Int) (w:World):
 Calls Tryz.prog 104 #[.int .i64 x] w fun e w'=>e=.returned (.bool (Mk.isM x))/\w=w':=by
 by_cases h0:0<=x
 ·by_cases h1:x<99991
  ·go_enter Tryz.func104,Tryz.ntmps104
   go_wp2
   go_ret
   exact⟨ret_bool ((Mk.isM_iff x).2 ⟨h0,h1⟩).symm,rfl⟩
  ·go_enter Tryz.func104,Tryz.ntmps104
   go_wp2
   go_ret
   exact⟨ret_bool ((Mk.isM_no x).2 (by omega)).symm,rfl⟩
 ·go_enter Tryz.func104,Tryz.ntmps104
  go_wp2
  go_ret
  exact⟨ret_bool ((Mk.isM_no x).2 (by omega)).symm,rfl⟩
def Row (w:World) (b off:Nat) (l:List Int):Prop:=∀ j,j<l.length->w.cell? ⟨b,off+j,none⟩=some (.int .i64 (l.getD j 0))
def Free (w:World) (b off n:Nat):Prop:=∀ j,j<n->w.frozen? ⟨b,off+j,none⟩=false
def IntsAt (w:World) (ao:OAd) (l:List Int):Prop:=l=[]\/∃ b off,ao=some ⟨b,off,none⟩/\Row w b off l
theorem cell_lt {a:Addr} (h:w.cell? a=some v):a.block<w.heap.size:=by
 apply Classical.byContradiction
 intro hn
 have:w.heap[a.block]?=none:=Array.getElem?_eq_none (by omega)
 simp[World.cell?,this] at h
theorem Row.lt (h:Row w b off l) (hl:l≠[]):b<w.heap.size:=by
 have h0:=h 0 (List.length_pos_iff.2 hl)
 exact cell_lt h0
theorem Row.below (h:Row w b off l) (hb:Below B w w') (hB:b<B):Row w' b off l:=
 fun j hj=>(hb.cell (p:=⟨b,off+j,none⟩) hB).trans (h j hj)
theorem Row.grown (h:Row w b off l) (hb:Below w.heap.size w w'):Row w' b off l:=by
 by_cases hl:l=[]
 ·subst hl;intro j hj;simp at hj
 ·exact h.below hb (h.lt hl)
theorem IntsAt.grown (h:IntsAt w ao l) (hb:Below w.heap.size w w'):IntsAt w' ao l:=by
 rcases h with h|⟨b,off,h,hr⟩
 ·exact Or.inl h
 ·exact Or.inr ⟨b,off,h,hr.grown hb⟩
theorem Free.below (h:Free w b off n) (hb:Below B w w') (hB:b<B):Free w' b off n:=
 fun j hj=>(hb.frozen (p:=⟨b,off+j,none⟩) hB).trans (h j hj)
theorem Free.set (h:Free w b off n) (a:Addr) (v:Value):Free (w.setCell a v) b off n:=
 fun j hj=>by rw[World.frozen?_setCell];exact h j hj
theorem Row.other (h:Row w b off l) {a:Addr} (hb:a.block≠b) (v:Value):Row (w.setCell a v) b off l:=
 fun j hj=>by rw[World.cell?_setCell_other _ _ _ _ (by intro e;subst e;exact hb rfl)];exact h j hj
theorem Row.set (h:Row w b off l) (hk:k<l.length) (v:Int):Row (w.setCell ⟨b,off+k,none⟩ (.int .i64 v)) b off (l.set k v):=by
 intro j hj
 rw[List.length_set] at hj
 by_cases e:j=k
 ·subst e
  rw[World.cell?_setCell_same _ _ _ (h j hj)]
  simp[List.getD,hj]
 ·rw[World.cell?_setCell_other _ _ _ _ (fun e'=>e (by have h2:=congrArg Addr.off e';simp only at h2;omega)),h j hj]
  simp only[List.getD]
  rw[List.getElem?_set_ne (by omega)]
theorem Row.alloc (h:Row w b off l) (o:Obj):Row (w.alloc o) b off l:=
 h.grown (bAl _ _)
theorem below_blk (h1:Below w.heap.size w w1) (h2:Below w1.heap.size w1 w2):Below w.heap.size w w2:=
 h1.trans (h2.mono h1.size)
def allM (l:List Int):Bool:=l.all Mk.isM
theorem allM_snoc (l:List Int) (k:Nat) (h:k<l.length):allM (l.take (k+1))=(allM (l.take k)&&Mk.isM (l.getD k 0)):=by
 unfold allM
 rw[List.take_succ_eq_append_getElem h,List.all_append]
 simp[List.getD,h]
theorem allM_no (l:List Int) (k:Nat) (h:k<l.length) (h':Mk.isM (l.getD k 0)=false):allM l=false:=by
 unfold allM
 rw[List.all_eq_false]
 refine⟨l[k],List.getElem_mem h,?_⟩
 simp only[List.getD,List.getElem?_eq_getElem h,Option.getD_some] at h'
 simp[h']
theorem areAll_nil (ao:OAd) (c:Nat) (w:World):
 Calls Tryz.prog 191 #[.slice ao 0 c] w fun e w'=>e=.returned (.bool true)/\w=w':=by
 go_enter Tryz.func191,Tryz.ntmps191
 go_wp2
 refine wp_loop_rounds 1 ?_
 rw[rounds_succ]
 go_wp2
 go_ret
 exact⟨rfl,rfl⟩
theorem areAll_row (b off c:Nat) (l:List Int) (w:World) (hr:Row w b off l) (hm:l.length<=9223372036854775807):
 Calls Tryz.prog 191 #[.slice (some ⟨b,off,none⟩) l.length c] w fun e w'=>e=.returned (.bool (allM l))/\w=w':=by
 have HR:=hiD hr
 clear hr
 generalize hn:l.length=n at *
 have HN:=hiD hn
 clear hn
 go_enter Tryz.func191,Tryz.ntmps191
 go_wp2
 go_loop [7] (fun i=>∃ k:Nat,k<=n/\i=.int .i64 k/\Hid (allM (l.take k)=true)) (fun i=>n-(intOf i).toNat)
 case atStart=>exact⟨0,Nat.zero_le _,rfl,by show allM _=true;simp[allM]⟩
 case round=>
  obtain⟨k,hk,rfl,hall⟩:=hrel
  by_cases hlt:k<n
  ·have hc:=HR.out k (by rw[HN.out];exact hlt)
   generalize hx:l.getD k 0=x at hc
   have HX:=hiD hx
   clear hx
   cases hmk:Mk.isM x
   ·go_wp2_with (go_at_call 104;refine(is_any _ _).mono ?_;rintro e w' ⟨rfl,rfl⟩)
    go_ret
    exact⟨ret_bool (allM_no l k (by rw[HN.out];exact hlt) (by rw[HX.out];exact hmk)).symm,rfl⟩
   ·go_wp2_with (go_at_call 104;refine(is_any _ _).mono ?_;rintro e w' ⟨rfl,rfl⟩)
    go_round
    case rel=>exact⟨k+1,by omega,by go_num,by show allM _=true;rw[allM_snoc l k (by rw[HN.out];exact hlt),hall.out,HX.out,hmk];rfl⟩
    case measure=>simp[intOf];omega
  ·go_wp2
   go_ret
   exact⟨ret_bool (by rw[<-hall.out,List.take_of_length_le (by rw[HN.out];omega)]),rfl⟩
theorem areAll_any (ao:OAd) (n c:Nat) (l:List Int) (w:World) (hr:IntsAt w ao l) (hn:l.length=n) (hm:n<=9223372036854775807):
 Calls Tryz.prog 191 #[.slice ao n c] w fun e w'=>e=.returned (.bool (allM l))/\w=w':=by
 rcases hr with rfl|⟨b,off,rfl,hr⟩
 ·have h0:n=0:=by rw[<-hn];rfl
  subst h0
  exact areAll_nil ao c w
 ·subst hn
  exact areAll_row b off c l w hr hm
def isS (l:List Int):Bool:=decide (l.length=5)&&allM l
theorem isSeal_any (ao:OAd) (n c:Nat) (l:List Int) (w:World) (hr:IntsAt w ao l) (hn:l.length=n) (hm:n<=9223372036854775807):
 Calls Tryz.prog 149 #[.slice ao n c] w fun e w'=>e=.returned (.bool (isS l))/\w=w':=by
 have HR:=hiD hr
 have HN:=hiD hn
 clear hr hn
 by_cases h5:n=5
 ·subst h5
  go_enter Tryz.func149,Tryz.ntmps149
  go_wp2_with (go_at_call 191;refine(areAll_any _ _ _ _ _ HR HN (by omega)).mono ?_;rintro e w' ⟨rfl,rfl⟩)
  go_ret
  exact⟨ret_bool (by unfold isS;rw[HN.out];rfl),rfl⟩
 ·have h5':((n:Int)== 5)=false:=by rw[beq_eq_false_iff_ne];omega
  go_enter Tryz.func149,Tryz.ntmps149
  go_wp2
  go_ret
  exact⟨ret_bool (by unfold isS;rw[HN.out,decide_eq_false h5];rfl),rfl⟩
theorem info3:(Tryz.prog.info? 3).map (fun i=>(i.zero,i.size,i.bytes))=some (some (.int .i64 0),1,8):=by kernel_rfl
def OwnInts (w:World) (base:Nat) (v:Value) (l:List Int):Prop:=w.ownsRow base 3 1 v l.length (l.map (Value.int .i64))
theorem OwnInts.nil (w:World) (base:Nat):OwnInts w base (.slice none 0 0) []:=World.ownsRow_nil _ _ _ _
theorem OwnInts.drew (h:OwnInts w base v l):OwnInts w.drew base v l:=h
theorem OwnInts.slice (h:OwnInts w base v l):∃ ao c,v=.slice ao l.length c/\IntsAt w ao l/\l.length<=c:=by
 obtain⟨_,h|⟨g,cap,cur,rfl,_,hg,hn,_,hs,ht⟩⟩:=h
 ·obtain⟨rfl,h0⟩:=h
  have:l=[]:=List.length_eq_zero_iff.1 h0
  subst this
  exact⟨none,0,rfl,Or.inl rfl,leR⟩
 ·refine⟨_,cap,rfl,Or.inr ⟨g,0,rfl,?_⟩,hn⟩
  intro j hj
  have e:(cur.toList.take (l.length*1))[j]?=(l.map (Value.int .i64))[j]?:=by rw[ht]
  rw[List.getElem?_take_of_lt (by omega),List.getElem?_map,List.getElem?_eq_getElem hj] at e
  simp[World.cell?,hg,List.getD,hj]
  simpa using e
theorem OwnInts.below (h:OwnInts w base v l) (hb:Below B w w') (hB:∀ k,v.ownBlock=some k->k<B):OwnInts w' base v l:=by
 obtain⟨h1,h|⟨g,cap,cur,rfl,hbg,hg,hn⟩⟩:=h
 ·exact⟨h1,Or.inl h⟩
 ·exact⟨h1,Or.inr ⟨g,cap,cur,rfl,hbg,(hb.block g (hB g rfl)).trans hg,hn⟩⟩
theorem OwnInts.blk (h:OwnInts w base v l):∀ k,v.ownBlock=some k->base<=k/\k<w.heap.size:=by
 intro k hk
 obtain⟨_,h|⟨g,cap,cur,rfl,hbg,hg,_⟩⟩:=h
 ·obtain⟨rfl,_⟩:=h
  simp[Value.ownBlock] at hk
 ·simp[Value.ownBlock] at hk
  subst hk
  refine⟨hbg,?_⟩
  apply Classical.byContradiction
  intro hc
  rw[Array.getElem?_eq_none (by omega)] at hg
  cases hg
theorem OwnInts.grown (h:OwnInts w base v l) (hb:Below w.heap.size w w'):OwnInts w' base v l:=
 h.below hb (fun k hk=>(h.blk k hk).2)
theorem one_cell (y:Int):∀ u∈[Value.int .i64 y],u.oneCell'=true:=by
 intro u hu
 simp at hu
 subst hu
 rfl
theorem app_next (hown:OwnInts w base v l) (hbase:base<=w.heap.size) (hg:(w.alloc (.cells #[.int .i64 y] 3)).grownBy w' v.ownBlock):Below base w w':=by
 refine Below.grown ((Below.refl _ _).alloc hbase _) hg (by simp;omega) ?_
 intro k hk
 exact(hown.blk k hk).1
theorem wpList_app1 (w:World) {ops:Array Oper} {rest:List Oper} {o:Oper} {a:Act} {Q:Exit->Act->World->Prop} (hgd:o.guard=none) (s x:Operand)
 (ho:o.op=.call { callee:=.builtin .append,args:=#[s,x],argTypes:=#[44,44] })
 (base:Nat) (v:Value) (l:List Int) (y:Int) (hs:a.eval s=v) (hx:a.eval x=.slice (some ⟨w.heap.size,0,none⟩) 1 1) (hown:OwnInts w base v l) (hbase:base<=w.heap.size) (hlen:l.length<=1000000)
 (h:∀ v' w',OwnInts w' base v' (l++[y])->Below base w w'->wpList Tryz.prog ops Q rest (a.put o.dst v') w'):wpList Tryz.prog ops Q (o::rest) a (w.alloc (.cells #[.int .i64 y] 3)):=by
 obtain⟨i0,hi,hz0,hz1,hz2⟩:=info_parts info3
 refine wpList_append_own _ hgd s x 44 ho base 3 i0 (.int .i64 0) 1 8 Tryz.underlying44 hi hz0 hz1 hz2 rfl (by decide) v l.length (l.map (Value.int .i64)) hs (World.ownsRow.alloc hown _) ⟨w.heap.size,0,none⟩ 1 1 [.int .i64 y] hx rfl (cell_one_new _ _ _) (one_cell y) (by unfold maxLen;omega) (by omega) (by simp;omega) ?_
 intro v' w' hown' hg _
 refine h v' w' ?_ (app_next hown hbase hg)
 unfold OwnInts
 rw[List.length_append,List.map_append]
 exact hown'
theorem cell_one (h:W.cell? ⟨g,0,none⟩=some (.int .i64 y)):∀ j u,[Value.int .i64 y][j]?=some u->W.cell? ((⟨g,0,none⟩:Addr).add j)=some u:=by
 intro j u hj
 match j,hj with
 |0,hj=>
  simp at hj
  subst hj
  simpa [Addr.add] using h
theorem appg_next (hown:OwnInts w base v l) (hbase:base<=w.heap.size) (hg:w.grownBy w' v.ownBlock):Below base w w':=
 Below.grown (Below.refl _ _) hg hbase (fun k hk=>(hown.blk k hk).1)
theorem wpList_app1g (W:World) {ops:Array Oper} {rest:List Oper} {o:Oper} {a:Act} {Q:Exit->Act->World->Prop} (hgd:o.guard=none) (s x:Operand)
 (ho:o.op=.call { callee:=.builtin .append,args:=#[s,x],argTypes:=#[44,44] })
 (base g c:Nat) (v:Value) (l:List Int) (y:Int) (hs:a.eval s=v) (hx:a.eval x=.slice (some ⟨g,0,none⟩) 1 c) (hown:OwnInts W base v l) (hc:W.cell? ⟨g,0,none⟩=some (.int .i64 y)) (hbase:base<=W.heap.size) (hlen:l.length<=1000000)
 (h:∀ v' w',OwnInts w' base v' (l++[y])->Below base W w'->wpList Tryz.prog ops Q rest (a.put o.dst v') w'):wpList Tryz.prog ops Q (o::rest) a W:=by
 obtain⟨i0,hi,hz0,hz1,hz2⟩:=info_parts info3
 refine wpList_append_own _ hgd s x 44 ho base 3 i0 (.int .i64 0) 1 8 Tryz.underlying44 hi hz0 hz1 hz2 rfl (by decide) v l.length (l.map (Value.int .i64)) hs hown ⟨g,0,none⟩ 1 c [.int .i64 y] hx rfl (cell_one hc) (one_cell y) (by unfold maxLen;omega) (by omega) hbase ?_
 intro v' w' hown' hg _
 refine h v' w' ?_ (appg_next hown hbase hg)
 unfold OwnInts
 rw[List.length_append,List.map_append]
 exact hown'
theorem step_app1g (W:World) {ops:Array Oper} {o:Oper} {a:Act} {K:Act->World->Prop} {Q:Exit->Act->World->Prop} (hgd:o.guard=none) (s x:Operand)
 (ho:o.op=.call { callee:=.builtin .append,args:=#[s,x],argTypes:=#[44,44] })
 (base g c:Nat) (v:Value) (l:List Int) (y:Int) (hs:a.eval s=v) (hx:a.eval x=.slice (some ⟨g,0,none⟩) 1 c) (hown:OwnInts W base v l) (hc:W.cell? ⟨g,0,none⟩=some (.int .i64 y)) (hbase:base<=W.heap.size) (hlen:l.length<=1000000)
 (h:∀ v' w',OwnInts w' base v' (l++[y])->Below base W w'->K (a.put o.dst v') w'):if Region.wanted o (yielded ops a.tmps)=true then Oper.wp Tryz.prog o a W K Q else E:=by
 have hw:Region.wanted o (yielded ops a.tmps)=true:=by simp[Region.wanted,hgd]
 rw[if_pos hw]
 obtain⟨i0,hi,hz0,hz1,hz2⟩:=info_parts info3
 refine wp_append_own _ s x 44 ho base 3 i0 (.int .i64 0) 1 8 Tryz.underlying44 hi hz0 hz1 hz2 rfl (by decide) v l.length (l.map (Value.int .i64)) hs hown ⟨g,0,none⟩ 1 c [.int .i64 y] hx rfl (cell_one hc) (one_cell y) (by unfold maxLen;omega) (by omega) hbase ?_
 intro v' w' hown' hg _
 refine h v' w' ?_ (appg_next hown hbase hg)
 unfold OwnInts
 rw[List.length_append,List.map_append]
 exact hown'
theorem OwnInts.alloc (h:OwnInts w base v l) (o:Obj):OwnInts (w.alloc o) base v l:=World.ownsRow.alloc h o
abbrev ag5 (a b c d e:Int):Value:=.agg #[.int .i64 a,.int .i64 b,.int .i64 c,.int .i64 d,.int .i64 e]
theorem isK_iff (s b i:Int):Mk.isK s b i=true↔((b=0\/b=1)/\(0<=i/\i<100)/\(0<=s/\s<99991)):=by simp[Mk.isK]
theorem isK_no (s b i:Int):Mk.isK s b i=false↔¬((b=0\/b=1)/\(0<=i/\i<100)/\(0<=s/\s<99991)):=by
 unfold Mk.isK;rw[decide_eq_false_iff_not]
theorem isM_isK (s b i:Int) (hb:b=0\/b=1) (hi:0<=i/\i<100):Mk.isM s=Mk.isK s b i:=by
 unfold Mk.isM Mk.isK
 rw[decide_eq_decide]
 exact⟨fun h=>⟨hb,hi,h⟩,fun h=>h.2.2⟩
theorem keyIs_any (s b i:Int) (w:World):
 Calls Tryz.prog 126 #[.int .i64 s,.int .i64 b,.int .i64 i] w fun e w'=>e=.returned (.bool (Mk.isK s b i))/\w=w':=by
 by_cases hb0:b=0
 ·subst hb0
  by_cases hi:0<=i
  ·by_cases hi2:i<100
   ·go_enter Tryz.func126,Tryz.ntmps126
    go_wp2_with (go_at_call 104;refine(is_any _ _).mono ?_;rintro e w' ⟨rfl,rfl⟩)
    go_ret
    exact⟨ret_bool (isM_isK _ _ _ (by simp) ⟨hi,hi2⟩),rfl⟩
   ·go_enter Tryz.func126,Tryz.ntmps126
    go_wp2
    go_ret
    exact⟨ret_bool ((isK_no _ _ _).2 (by omega)).symm,rfl⟩
  ·go_enter Tryz.func126,Tryz.ntmps126
   go_wp2
   go_ret
   exact⟨ret_bool ((isK_no _ _ _).2 (by omega)).symm,rfl⟩
 ·by_cases hb1:b=1
  ·subst hb1
   by_cases hi:0<=i
   ·by_cases hi2:i<100
    ·go_enter Tryz.func126,Tryz.ntmps126
     go_wp2_with (go_at_call 104;refine(is_any _ _).mono ?_;rintro e w' ⟨rfl,rfl⟩)
     go_ret
     exact⟨ret_bool (isM_isK _ _ _ (by simp) ⟨hi,hi2⟩),rfl⟩
    ·go_enter Tryz.func126,Tryz.ntmps126
     go_wp2
     go_ret
     exact⟨ret_bool ((isK_no _ _ _).2 (by omega)).symm,rfl⟩
   ·go_enter Tryz.func126,Tryz.ntmps126
    go_wp2
    go_ret
    exact⟨ret_bool ((isK_no _ _ _).2 (by omega)).symm,rfl⟩
  ·have h0:(b !=0)=true:=by simpa using hb0
   have h1:(b !=1)=true:=by simpa using hb1
   go_enter Tryz.func126,Tryz.ntmps126
   go_wp2
   go_ret
   exact⟨ret_bool ((isK_no _ _ _).2 (by omega)).symm,rfl⟩
theorem digits_any (id:Int) (w:World) (h0:0<=id) (h1:id<99991):
 Calls Tryz.prog 150 #[.int .i64 id] w fun e w'=>e=.returned (ag5 (Mk.d0 id) (Mk.d1 id) (Mk.d2 id) (Mk.lk id / 8) (Mk.lk id % 8))/\Below w.heap.size w w':=by
 go_enter Tryz.func150,Tryz.ntmps150
 go_wp2
 refine bodyPost_ret (v:=ag5 (Mk.d0 id) (Mk.d1 id) (Mk.d2 id) (Mk.lk id / 8) (Mk.lk id % 8)) ?_ rfl ⟨rfl,?_⟩
 ·simp[results,Tryz.results150,go_sem,ag5,Mk.d0,Mk.d1,Mk.d2,Mk.lk]
 ·exact(Below.refl _ _).alloc leR _
theorem mixAll_any (a b c d f:Int) (w:World) (ha:0<=a/\a<99991) (hb:0<=b/\b<99991) (hc:0<=c/\c<99991) (hd:0<=d/\d<99991) (hf:0<=f/\f<99991):
 Calls Tryz.prog 129 #[.agg #[.int .i64 a,.int .i64 b,.int .i64 c,.int .i64 d,.int .i64 f]] w fun e w'=>e=.returned (.int .i64 (Mk.mixL 1 [a,b,c,d,f]))/\Below w.heap.size w w':=by
 have b1:=Mk.mx_bd 1 a
 have b2:=Mk.mx_bd (Mk.mx 1 a) b
 have b3:=Mk.mx_bd (Mk.mx (Mk.mx 1 a) b) c
 have b4:=Mk.mx_bd (Mk.mx (Mk.mx (Mk.mx 1 a) b) c) d
 go_enter Tryz.func129,Tryz.ntmps129
 go_wp2
 refine wp_loop_rounds 6 ?_
 iterate 5
  rw[rounds_succ]
  go_wp2_with (go_at_call 143;refine(mix_any _ _ _ (by omega) (by omega) (by omega) (by omega)).mono ?_;rintro e w' ⟨rfl,rfl⟩)
 rw[rounds_succ]
 go_wp2
 go_ret
 exact⟨rfl,(Below.refl _ _).alloc leR _⟩
theorem secrets_any (s b i:Int) (w:World) (hk:Mk.isK s b i=true):
 Calls Tryz.prog 127 #[.int .i64 s,.int .i64 b,.int .i64 i] w fun e w'=>e=.returned (ag5 (Mk.sec s b i 0) (Mk.sec s b i 1) (Mk.sec s b i 2) (Mk.sec s b i 3) (Mk.sec s b i 4))/\Below w.heap.size w w':=by
 have hk':=(isK_iff _ _ _).1 hk
 have hb1:0<=b/\b<=1:=by omega
 have hi1:=hk'.2.1
 have hs1:=hk'.2.2
 clear hk hk'
 have c1:=Mk.mx_bd s b
 have c2:=Mk.mx_bd (Mk.mx s b) i
 have e0:=Mk.mx_bd (Mk.mx (Mk.mx s b) i) 0
 have e1:=Mk.mx_bd (Mk.mx (Mk.mx s b) i) 1
 have e2:=Mk.mx_bd (Mk.mx (Mk.mx s b) i) 2
 have e3:=Mk.mx_bd (Mk.mx (Mk.mx s b) i) 3
 have e4:=Mk.mx_bd (Mk.mx (Mk.mx s b) i) 4
 go_enter Tryz.func127,Tryz.ntmps127
 go_wp2_with (go_at_call 143;refine(mix_any _ _ _ (by omega) (by omega) (by omega) (by omega)).mono ?_;rintro e w' ⟨rfl,rfl⟩)
 refine wp_loop_rounds 6 ?_
 iterate 5
  rw[rounds_succ]
  go_wp2_with (first|(go_at_call 143;refine(mix_any _ _ _ (by omega) (by omega) (by omega) (by omega)).mono ?_;rintro e w' ⟨rfl,rfl⟩)|(go_at_call 184;refine(turn_any _ _ (by omega) (by omega)).mono ?_;rintro e w' ⟨rfl,rfl⟩))
 rw[rounds_succ]
 go_wp2
 refine bodyPost_ret (v:=ag5 (Mk.sec s b i 0) (Mk.sec s b i 1) (Mk.sec s b i 2) (Mk.sec s b i 3) (Mk.sec s b i 4)) ?_ rfl ⟨rfl,?_⟩
 ·simp[results,Tryz.results127,go_sem,ag5,Mk.sec]
 ·exact(bAl _ _).alloc (by simp) _
theorem address_yes (s b i:Int) (w:World) (hk:Mk.isK s b i=true):
 Calls Tryz.prog 76 #[.int .i64 s,.int .i64 b,.int .i64 i] w fun e w'=>e=.returned (.tuple #[.int .i64 (Mk.adr s b i),.int .i64 0])/\Below w.heap.size w w':=by
 have e0:=Mk.sec_bd s b i 0
 have e1:=Mk.sec_bd s b i 1
 have e2:=Mk.sec_bd s b i 2
 have e3:=Mk.sec_bd s b i 3
 have e4:=Mk.sec_bd s b i 4
 have t0:=Mk.tnN_bd _ e0.1 e0.2 7
 have t1:=Mk.tnN_bd _ e1.1 e1.2 7
 have t2:=Mk.tnN_bd _ e2.1 e2.2 7
 have t3:=Mk.tnN_bd _ e3.1 e3.2 7
 have t4:=Mk.tnN_bd _ e4.1 e4.2 7
 go_enter Tryz.func76,Tryz.ntmps76
 go_wp2_with (first|(go_at_call 126;refine(keyIs_any _ _ _ _).mono ?_;rintro e w' ⟨rfl,rfl⟩)|(go_at_call 127;refine(secrets_any _ _ _ _ hk).mono ?_;rintro e w1 ⟨rfl,hb1⟩))
 refine wp_loop_rounds 6 ?_
 iterate 5
  rw[rounds_succ]
  go_wp2_with (go_at_call 128;refine(times_any _ _ _ (by omega) (by omega) (by omega) (by omega)).mono ?_;rintro e w' ⟨rfl,rfl⟩)
 rw[rounds_succ]
 go_wp2_with (go_at_call 129;refine(mixAll_any _ _ _ _ _ _ t0 t1 t2 t3 t4).mono ?_;rintro e w2 ⟨rfl,hb2⟩)
 go_ret2
 refine⟨rfl,?_⟩
 have hb1:Below w.heap.size w w1:=by assumption
 have hs:=hb1.size
 exact(hb1.alloc hs _).trans (hb2.mono (by simp;omega))
theorem mk5:∀ w:World,(Instr.makeSlice 44 (.int .i64 5) (.int .i64 5)).run Tryz.prog w=.ok (.slice (some ⟨w.heap.size,0,none⟩) 5 5) (w.alloc (.cells #[.int .i64 0,.int .i64 0,.int .i64 0,.int .i64 0,.int .i64 0] 3)):=fun _=>by kernel_rfl
def secL (s b i:Int):List Int:=[Mk.sec s b i 0,Mk.sec s b i 1,Mk.sec s b i 2,Mk.sec s b i 3,Mk.sec s b i 4]
def dgL (id:Int):List Int:=[Mk.dg id 0,Mk.dg id 1,Mk.dg id 2,Mk.dg id 3,Mk.dg id 4]
def partL (f:Nat->Int) (k:Nat):List Int:=(List.range 5).map fun j=>if j<k then f j else 0
theorem partL_len (f:Nat->Int) (k:Nat):(partL f k).length=5:=by simp[partL]
theorem partL_set (f:Nat->Int) (k:Nat):(partL f k).set k (f k)=partL f (k+1):=by
 apply List.ext_getElem
 ·simp[partL]
 ·intro j h1 h2
  simp only[partL,List.getElem_set,List.getElem_map,List.getElem_range]
  by_cases e:k=j
  ·subst e;simp
  ·have:(j<k)↔(j<k+1):=by omega
   simp[e,this]
theorem partL_all (f:Nat->Int):partL f 5=(List.range 5).map f:=by
 unfold partL
 apply List.map_congr_left
 intro j hj
 have:j<5:=by simpa using hj
 simp[this]
theorem secL_at (s b i:Int) (k:Nat) (h:k<5):(secL s b i).getD k 0=Mk.sec s b i k:=by
 match k,h with
 |0,_|1,_|2,_|3,_|4,_=>rfl
theorem dgL_at (id:Int) (k:Nat) (h:k<5):(dgL id).getD k 0=Mk.dg id k:=by
 match k,h with
 |0,_|1,_|2,_|3,_|4,_=>rfl
theorem row_new (w:World) (a b c d e:Int) (t:TypeId):Row (w.alloc (.cells #[.int .i64 a,.int .i64 b,.int .i64 c,.int .i64 d,.int .i64 e] t)) w.heap.size 0 [a,b,c,d,e]:=by
 intro j hj
 rw[World.cell?_alloc_new]
 match j,hj with
 |0,_|1,_|2,_|3,_|4,_=>rfl
structure SealInv (w:World) (s b i id:Int) (B1 B2 B3:Nat) (k:Nat) (wr:World):Prop where
 r1:Row wr B1 0 (secL s b i)
 r2:Row wr B2 0 (dgL id)
 r3:Row wr B3 0 (partL (fun j=>Mk.tnN (Mk.sec s b i j) (Mk.dg id j).toNat) k)
 fr:Free wr B3 0 5
 bl:Below w.heap.size w wr
 n1:B3≠B1
 n2:B3≠B2
 lo:w.heap.size<=B3
theorem SealInv.step {b id:Int} (h:SealInv w s b i id B1 B2 B3 k wr) (hk:k<5):
 SealInv w s b i id B1 B2 B3 (k+1) (wr.setCell ⟨B3,k,none⟩ (.int .i64 (Mk.tnN (Mk.sec s b i k) (Mk.dg id k).toNat))):=by
 refine⟨h.r1.other (by simpa using h.n1) _,h.r2.other (by simpa using h.n2) _,?_,h.fr.set _ _,h.bl.setCell (by simpa using h.lo) _,h.n1,h.n2,h.lo⟩
 have:=h.r3.set (k:=k) (by rw[partL_len];exact hk) (Mk.tnN (Mk.sec s b i k) (Mk.dg id k).toNat)
 rw[Nat.zero_add,partL_set (fun j=>Mk.tnN (Mk.sec s b i j) (Mk.dg id j).toNat) k] at this
 exact this
theorem SealInv.drew {b id:Int} (h:SealInv w s b i id B1 B2 B3 k wr):SealInv w s b i id B1 B2 B3 k wr.drew:=
 ⟨h.r1,h.r2,h.r3,h.fr,h.bl.drew,h.n1,h.n2,h.lo⟩
theorem seal_start {b id:Int} (hb1:Below w.heap.size w w1)
 (hb2:Below (w1.alloc (.cells #[.int .i64 (Mk.sec s b i 0),.int .i64 (Mk.sec s b i 1),.int .i64 (Mk.sec s b i 2),.int .i64 (Mk.sec s b i 3),.int .i64 (Mk.sec s b i 4)] 192)).heap.size (w1.alloc (.cells #[.int .i64 (Mk.sec s b i 0),.int .i64 (Mk.sec s b i 1),.int .i64 (Mk.sec s b i 2),.int .i64 (Mk.sec s b i 3),.int .i64 (Mk.sec s b i 4)] 192)) w2):
 SealInv w s b i id w1.heap.size w2.heap.size (w2.heap.size+1) 0 ((w2.alloc (.cells #[.int .i64 (Mk.d0 id),.int .i64 (Mk.d1 id),.int .i64 (Mk.d2 id),.int .i64 (Mk.lk id / 8),.int .i64 (Mk.lk id % 8)] 192)).alloc (.cells #[.int .i64 0,.int .i64 0,.int .i64 0,.int .i64 0,.int .i64 0] 3)):=by
 have hs1:=hb1.size
 have hs2:=hb2.size
 rw[World.size_alloc] at hs2
 refine⟨?_,?_,?_,?_,?_,by omega,by omega,by omega⟩
 ·exact(((row_new w1 _ _ _ _ _ 192).grown hb2).alloc _).alloc _
 ·exact(row_new w2 _ _ _ _ _ 192).alloc _
 ·have:=row_new (w2.alloc (.cells #[.int .i64 (Mk.d0 id),.int .i64 (Mk.d1 id),.int .i64 (Mk.d2 id),.int .i64 (Mk.lk id / 8),.int .i64 (Mk.lk id % 8)] 192)) 0 0 0 0 0 3
  rw[World.size_alloc] at this
  exact this
 ·intro j hj
  exact World.frozen?_alloc_at _ _ _ _ (by simp)
 ·exact(((hb1.alloc hs1 _).trans (hb2.mono (by simp;omega))).alloc (by omega) _).alloc (by simp;omega) _
theorem rMark_any (x:Int) (w:World):
 Calls Tryz.prog 105 #[.int .i64 x] w fun e w'=>e=.returned (.bool (Mk.isM x))/\w=w':=by
 by_cases h0:0<=x
 ·by_cases h1:x<99991
  ·go_enter Tryz.func105,Tryz.ntmps105
   go_wp2
   go_ret
   exact⟨ret_bool ((Mk.isM_iff x).2 ⟨h0,h1⟩).symm,rfl⟩
  ·go_enter Tryz.func105,Tryz.ntmps105
   go_wp2
   go_ret
   exact⟨ret_bool ((Mk.isM_no x).2 (by omega)).symm,rfl⟩
 ·go_enter Tryz.func105,Tryz.ntmps105
  go_wp2
  go_ret
  exact⟨ret_bool ((Mk.isM_no x).2 (by omega)).symm,rfl⟩
theorem turned_any (x n:Int) (w:World) (h0:0<=x) (h1:x<99991) (n0:0<=n) (n1:n<=7):
 Calls Tryz.prog 198 #[.int .i64 x,.int .i64 n] w fun e w'=>e=.returned (.int .i64 (Mk.tnN x n.toNat))/\w=w':=by
 go_enter Tryz.func198,Tryz.ntmps198
 go_wp2
 go_loop [0,5] (fun v i=>∃ k:Nat,(k:Int)<=n/\i=.int .i64 k/\v=.int .i64 (Mk.tnN x k)) (fun _ i=>(n-intOf i).toNat)
 case atStart=>exact⟨0,by omega,rfl,rfl⟩
 case round=>
  obtain⟨k,hk,rfl,rfl⟩:=hrel
  have hb:=Mk.tnN_bd x h0 h1 k
  have hq:=sq_bd hb.1 hb.2
  by_cases hlt:(k:Int)<n
  ·go_wp2
   go_round
   case rel=>exact⟨k+1,by omega,by go_num,rfl⟩
   case measure=>simp[intOf];omega
  ·go_wp2
   go_ret
   exact⟨ret_int (by rw[show n.toNat=k by omega]),rfl⟩
theorem mixL_snoc (h:Int) (l:List Int) (k:Nat) (hk:k<l.length):Mk.mixL h (l.take (k+1))=Mk.mx (Mk.mixL h (l.take k)) (l.getD k 0):=by
 rw[List.take_succ_eq_append_getElem hk,Mk.mixL_append]
 simp[Mk.mixL,List.getD,hk]
def Mixable (l:List Int):Prop:=∀ j,j<l.length->0<=l.getD j 0/\l.getD j 0<=1099511627776
theorem mixed_nil (h:Int) (ao:OAd) (c:Nat) (w:World):
 Calls Tryz.prog 199 #[.int .i64 h,.slice ao 0 c] w fun e w'=>e=.returned (.int .i64 h)/\w=w':=by
 go_enter Tryz.func199,Tryz.ntmps199
 go_wp2
 refine wp_loop_rounds 1 ?_
 rw[rounds_succ]
 go_wp2
 go_ret
 exact⟨rfl,rfl⟩
theorem mixed_row (h:Int) (b off n c:Nat) (l:List Int) (w:World) (h0:0<=h) (h1:h<99991) (hr:Row w b off l) (hn:l.length=n) (hm:Mixable l) (hx:n<=1000000):
 Calls Tryz.prog 199 #[.int .i64 h,.slice (some ⟨b,off,none⟩) n c] w fun e w'=>e=.returned (.int .i64 (Mk.mixL h l))/\w=w':=by
 have HR:=hiD hr
 have HN:=hiD hn
 clear hr hn
 go_enter Tryz.func199,Tryz.ntmps199
 go_wp2
 go_loop [0,5] (fun v i=>∃ k:Nat,k<=n/\i=.int .i64 k/\v=.int .i64 (Mk.mixL h (l.take k))) (fun _ i=>n-(intOf i).toNat)
 case atStart=>exact⟨0,by omega,rfl,rfl⟩
 case round=>
  obtain⟨k,hk,rfl,rfl⟩:=hrel
  have hb:=Mk.mixL_bd h (l.take k) h0 h1
  by_cases hlt:k<n
  ·have hc:=HR.out k (by rw[HN.out];exact hlt)
   have hd:=hm k (by rw[HN.out];exact hlt)
   have HS:Hid _:=mixL_snoc h l k (by rw[HN.out];exact hlt)
   generalize l.getD k 0=x at hc hd HS
   generalize Mk.mixL h (l.take k)=y at *
   go_wp2
   go_round
   case rel=>exact⟨k+1,by omega,by go_num,by rw[HS.out];rfl⟩
   case measure=>simp[intOf];omega
  ·go_wp2
   go_ret
   exact⟨ret_int (by rw[List.take_of_length_le (by rw[HN.out];omega)]),rfl⟩
theorem mixed_any (h:Int) (ao:OAd) (n c:Nat) (l:List Int) (w:World) (h0:0<=h) (h1:h<99991) (hr:IntsAt w ao l) (hn:l.length=n) (hm:Mixable l) (hx:n<=1000000):
 Calls Tryz.prog 199 #[.int .i64 h,.slice ao n c] w fun e w'=>e=.returned (.int .i64 (Mk.mixL h l))/\w=w':=by
 rcases hr with rfl|⟨b,off,rfl,hr⟩
 ·have h0:n=0:=by rw[<-hn];rfl
  subst h0
  exact mixed_nil h ao c w
 ·exact mixed_row h b off n c l w h0 h1 hr hn hm hx
theorem row_new3 (w:World) (a b c:Int) (t:TypeId):Row (w.alloc (.cells #[.int .i64 a,.int .i64 b,.int .i64 c] t)) w.heap.size 0 [a,b,c]:=by
 intro j hj
 rw[World.cell?_alloc_new]
 match j,hj with
 |0,_|1,_|2,_=>rfl
theorem mixable3 {b:Int} (ha:0<=a/\a<=1099511627776) (hb:0<=b/\b<=1099511627776) (hc:0<=c/\c<=1099511627776):Mixable [a,b,c]:=by
 intro j hj
 match j,hj with
 |0,_=>exact ha
 |1,_=>exact hb
 |2,_=>exact hc
theorem secret_any (s b i j:Int) (w:World) (hk:Mk.isK s b i=true) (j0:0<=j) (j1:j<5):
 Calls Tryz.prog 197 #[.int .i64 s,.int .i64 b,.int .i64 i,.int .i64 j] w fun e w'=>e=.returned (.int .i64 (Mk.sec s b i j.toNat))/\Below w.heap.size w w':=by
 have hk':=(isK_iff _ _ _).1 hk
 have hb1:0<=b/\b<=1:=by omega
 have hi1:=hk'.2.1
 have hs1:=hk'.2.2
 have hmb:=Mk.mixL_bd s [b,i,j] hs1.1 hs1.2
 clear hk hk'
 go_enter Tryz.func197,Tryz.ntmps197
 go_wp2_with fail
 refine(mixed_any _ _ _ _ [b,i,j] _ (by omega) (by omega) (Or.inr ⟨_,_,rfl,row_new3 _ _ _ _ _⟩) rfl (mixable3 (by omega) (by omega) (by omega)) (by simp)).mono ?_
 rintro e w' ⟨rfl,rfl⟩
 go_wp2_with fail
 refine(turned_any _ _ _ (by omega) (by omega) (by omega) (by omega)).mono ?_
 rintro e w' ⟨rfl,rfl⟩
 go_wp2
 go_ret
 refine⟨ret_int ?_,(Below.refl _ _).alloc leR _⟩
 unfold Mk.sec
 rw[Int.toNat_of_nonneg j0]
 rfl
end
end Go.Proofs.YtffgpepngcnjeabGreat
