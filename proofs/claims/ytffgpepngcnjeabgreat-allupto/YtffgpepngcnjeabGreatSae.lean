import Derived.Test.YtffgpepngcnjeabGreatSad
import Derived.Deep.AppendLies
namespace Go.Proofs.YtffgpepngcnjeabGreat
set_option maxRecDepth 100000
set_option maxHeartbeats 4000000
section
open Go.RowKit
variable {a c w w' W:World} {b B o off base e size n k j i g:Nat} {row:Option Nat} {v:Value} {ao:OAd} {x:InD} {cs:List Value} {xs:List InD} {ys:LII} {s br:Int}
theorem gb_refl (w:World) (row:Option Nat):w.grownBy w row:=⟨rfl,rfl,rfl,leR,fun _ _ _=>rfl⟩
theorem gb_trans {b:World} (h:a.grownBy b row) (k:b.grownBy c row):a.grownBy c row:=
 ⟨k.os.trans h.os,k.tape.trans h.tape,k.output.trans h.output,leT h.size k.size,fun i hi hne=>(k.block i (ltL hi h.size) hne).trans (h.block i hi hne)⟩
theorem gb_below (h:Below w.heap.size w w') (row:Option Nat):w.grownBy w' row:=⟨h.os,h.tape,h.output,h.size,fun k hk _=>h.block k hk⟩
theorem gb_alloc (w:World) (o:Obj) (row:Option Nat):w.grownBy (w.alloc o) row:=gb_below (bAl _ _) row
theorem gb_drew (w:World) (row:Option Nat):w.grownBy w.drew row:=⟨rfl,rfl,rfl,leR,fun _ _ _=>rfl⟩
theorem gb_set (w:World) (g o:Nat) (v:Value):w.grownBy (w.setCell ⟨g,o,none⟩ v) (some g):=
 ⟨rfl,rfl,rfl,by simp,fun k _ hne=>Below.heap_setCell w ⟨g,o,none⟩ v k (fun e=>hne (by rw[e]))⟩
theorem gb_to_below (h:w.grownBy w' row) (hB:B<=w.heap.size) (hr:∀ k,row=some k->B<=k):Below B w w':=Below.grown (Below.refl _ _) h hB hr
theorem gb_cell (h:w.grownBy w' row) (hc:w.cell? ⟨b,o,none⟩=some v) (hne:some b≠row):w'.cell? ⟨b,o,none⟩=some v:=h.cell (a:=⟨b,o,none⟩) hc hne
theorem gb_frozen (h:w.grownBy w' row) (hb:b<w.heap.size) (hne:some b≠row):w'.frozen? ⟨b,o,none⟩=w.frozen? ⟨b,o,none⟩:=
 World.frozen?_of_block (h.block b hb hne)
theorem gb_row (h:w.grownBy w' row) {l:List Int} (hr:Row w b off l) (hne:some b≠row):Row w' b off l:=
 fun j hj=>gb_cell h (hr j hj) hne
def Off (ao:OAd) (row:Option Nat):Prop:=∀ a,ao=some a->some a.block≠row
theorem gb_ints (h:w.grownBy w' row) {l:List Int} (hr:IntsAt w ao l) (hne:Off ao row):IntsAt w' ao l:=by
 rcases hr with hr|⟨b,off,rfl,hr⟩
 ·exact Or.inl hr
 ·exact Or.inr ⟨b,off,rfl,gb_row h hr (hne _ rfl)⟩
theorem gb_ok (h:w.grownBy w' row) (hx:InOk w x) (hne:Off x.ao row):InOk w' x:=⟨gb_ints h hx.lies hne,hx.len,hx.sz,hx.nil⟩
def inCs (xs:List InD):List Value:=xs.flatMap fun x=>[.int .i64 x.id,.int .i64 x.pos,.slice x.ao x.n x.c]
def outCs (ys:LII):List Value:=ys.flatMap fun y=>[.int .i64 y.1,.int .i64 y.2]
def OwnIns (w:World) (base:Nat) (v:Value) (xs:List InD):Prop:=w.ownsRow base 115 3 v xs.length (inCs xs)
def OwnOuts (w:World) (base:Nat) (v:Value) (ys:LII):Prop:=w.ownsRow base 93 2 v ys.length (outCs ys)
theorem inCs_get (xs:List InD):∀ j,j<xs.length->(inCs xs)[j*3]?=some (.int .i64 (xs.getD j dIn).id)/\(inCs xs)[j*3+1]?=some (.int .i64 (xs.getD j dIn).pos)/\(inCs xs)[j*3+2]?=some (.slice (xs.getD j dIn).ao (xs.getD j dIn).n (xs.getD j dIn).c):=by
 induction xs with
 |nil=>intro j hj;simp at hj
 |cons y r ih=>
  intro j hj
  cases j with
  |zero=>exact⟨rfl,rfl,rfl⟩
  |succ j=>
   have:=ih j (by simpa using hj)
   have e1:(j+1)*3=j*3+3:=by omega
   rw[e1]
   exact this
theorem outCs_get (ys:LII):∀ j,j<ys.length->(outCs ys)[j*2]?=some (.int .i64 (ys.getD j (0,0)).1)/\(outCs ys)[j*2+1]?=some (.int .i64 (ys.getD j (0,0)).2):=by
 induction ys with
 |nil=>intro j hj;simp at hj
 |cons y r ih=>
  intro j hj
  cases j with
  |zero=>exact⟨rfl,rfl⟩
  |succ j=>
   have:=ih j (by simpa using hj)
   have e1:(j+1)*2=j*2+2:=by omega
   rw[e1]
   exact this
theorem owned_row (h:w.ownsRow base e size v n cs):
 (v=.slice none 0 0/\n=0)\/∃ g c,v=.slice (some ⟨g,0,none⟩) n c/\base<=g/\g<w.heap.size/\(∀ j,j<n*size->w.cell? ⟨g,j,none⟩=cs[j]?)/\(∀ j,w.frozen? ⟨g,j,none⟩=false):=by
 obtain⟨h1,h|⟨g,cap,cur,rfl,hb,hg,hn,_,hs,ht⟩⟩:=h
 ·exact Or.inl h
 ·refine Or.inr ⟨g,cap,rfl,hb,?_,fun j hj=>?_,fun j=>?_⟩
  ·apply Classical.byContradiction
   intro hc
   rw[Array.getElem?_eq_none (by omega)] at hg
   cases hg
  ·rw[<-ht,List.getElem?_take_of_lt hj]
   simp[World.cell?,hg]
  ·simp[World.frozen?,hg]
theorem OwnIns.nil (w:World) (base:Nat):OwnIns w base (.slice none 0 0) []:=World.ownsRow_nil _ _ _ _
theorem OwnOuts.nil (w:World) (base:Nat):OwnOuts w base (.slice none 0 0) []:=World.ownsRow_nil _ _ _ _
theorem OwnIns.cells (h:OwnIns w base v xs):
 (v=.slice none 0 0/\xs=[])\/∃ g c,v=.slice (some ⟨g,0,none⟩) xs.length c/\base<=g/\g<w.heap.size/\(∀ j,j<xs.length->InCells w g (j*3) (xs.getD j dIn))/\(∀ j,w.frozen? ⟨g,j,none⟩=false):=by
 rcases owned_row h with⟨h1,h2⟩|⟨g,c,h1,h2,h3,h4,h5⟩
 ·exact Or.inl ⟨h1,List.length_eq_zero_iff.1 h2⟩
 ·refine Or.inr ⟨g,c,h1,h2,h3,fun j hj=>?_,h5⟩
  obtain⟨a,b,d⟩:=inCs_get xs j hj
  exact⟨(h4 (j*3) (by omega)).trans a,(h4 (j*3+1) (by omega)).trans b,(h4 (j*3+2) (by omega)).trans d⟩
theorem OwnOuts.cells (h:OwnOuts w base v ys):
 (v=.slice none 0 0/\ys=[])\/∃ g c,v=.slice (some ⟨g,0,none⟩) ys.length c/\base<=g/\g<w.heap.size/\OutsRow w g 0 ys/\(∀ j,w.frozen? ⟨g,j,none⟩=false):=by
 rcases owned_row h with⟨h1,h2⟩|⟨g,c,h1,h2,h3,h4,h5⟩
 ·exact Or.inl ⟨h1,List.length_eq_zero_iff.1 h2⟩
 ·refine Or.inr ⟨g,c,h1,h2,h3,fun j hj=>?_,h5⟩
  obtain⟨a,b⟩:=outCs_get ys j hj
  rw[Nat.zero_add]
  exact⟨(h4 (j*2) (by omega)).trans a,(h4 (j*2+1) (by omega)).trans b⟩
theorem owns_gb (h:w.grownBy w' row) (ho:w.ownsRow base e size v n cs) (hne:∀ k,v.ownBlock=some k->some k≠row):w'.ownsRow base e size v n cs:=by
 obtain⟨h1,h2|⟨g,cap,cur,rfl,hb,hg,hn⟩⟩:=ho
 ·exact⟨h1,Or.inl h2⟩
 ·refine⟨h1,Or.inr ⟨g,cap,cur,rfl,hb,?_,hn⟩⟩
  have hlt:g<w.heap.size:=by
   apply Classical.byContradiction
   intro hc
   rw[Array.getElem?_eq_none (by omega)] at hg
   cases hg
  exact(h.block g hlt (hne g rfl)).trans hg
theorem owns_blk (ho:w.ownsRow base e size v n cs):∀ k,v.ownBlock=some k->base<=k/\k<w.heap.size:=by
 intro k hk
 rcases owned_row ho with⟨h1,_⟩|⟨g,c,h1,h2,h3,_⟩
 ·subst h1;simp[Value.ownBlock] at hk
 ·subst h1
  simp[Value.ownBlock] at hk
  subst hk
  exact⟨h2,h3⟩
theorem cells3_new (w:World) (x y z:Value) (t:TypeId):∀ j u,[x,y,z][j]?=some u->(w.alloc (.cells #[x,y,z] t)).cell? ((⟨w.heap.size,0,none⟩:Addr).add j)=some u:=by
 intro j u hj
 rw[Go.WideShapes.add_plain,Nat.zero_add,World.cell?_alloc_new]
 match j,hj with
 |0,hj|1,hj|2,hj=>exact hj
theorem one3 (a b:Int) (ao:OAd) (n c:Nat):∀ u∈[Value.int .i64 a,.int .i64 b,.slice ao n c],u.oneCell'=true:=by
 intro u hu
 simp at hu
 rcases hu with rfl|rfl|rfl<;>rfl
theorem inCs_snoc (xs:List InD) (x:InD):inCs xs++[.int .i64 x.id,.int .i64 x.pos,.slice x.ao x.n x.c]=inCs (xs++[x]):=by simp[inCs]
theorem wpList_appIn (w:World) {ops:Array Oper} {rest:List Oper} {o:Oper} {a:Act} {Q:Exit->Act->World->Prop} (hgd:o.guard=none) (s x:Operand)
 (ho:o.op=.call { callee:=.builtin .append,args:=#[s,x],argTypes:=#[33,33] })
 (base:Nat) (v:Value) (xs:List InD) (y:InD) (hs:a.eval s=v) (hx:a.eval x=.slice (some ⟨w.heap.size,0,none⟩) 1 1) (hown:OwnIns w base v xs) (hbase:base<=w.heap.size) (hlen:xs.length<=3518437208780)
 (h:∀ g cap w',OwnIns w' base (.slice (some ⟨g,0,none⟩) (xs.length+1) cap) (xs++[y])->w.grownBy w' v.ownBlock->(v.ownBlock=some g\/w.heap.size<=g)->g<w'.heap.size->wpList Tryz.prog ops Q rest (a.put o.dst (.slice (some ⟨g,0,none⟩) (xs.length+1) cap)) w'):
 wpList Tryz.prog ops Q (o::rest) a (w.alloc (.cells #[.int .i64 y.id,.int .i64 y.pos,.slice y.ao y.n y.c] 115)):=by
 obtain⟨i0,hi,hz0,hz1,hz2⟩:=info_parts info115
 refine wpList_append_lies _ hgd s x 33 ho base 115 i0 _ 3 40 Tryz.underlying33 hi hz0 hz1 hz2 rfl (by decide) v xs.length (inCs xs) hs (World.ownsRow.alloc hown _) ⟨w.heap.size,0,none⟩ 1 1 [.int .i64 y.id,.int .i64 y.pos,.slice y.ao y.n y.c] hx rfl (cells3_new _ _ _ _ _) (one3 _ _ _ _ _) (by decide) (by unfold maxLen;omega) (by omega) (by simp;omega) (w.heap.size+1) (by simp) ?_
 intro g cap w' hown' hg hlies hlt
 refine h g cap w' ?_ (gb_trans (gb_alloc _ _ _) hg) ?_ hlt
 ·unfold OwnIns
  rw[List.length_append,<-inCs_snoc]
  exact hown'
 ·rcases hlies with e|e
  ·exact Or.inl e
  ·exact Or.inr (by omega)
def dV:Value:=.bool false
def VRow (w:World) (b off:Nat) (l:List Value):Prop:=∀ j,j<l.length->w.cell? ⟨b,off+j,none⟩=some (l.getD j dV)
theorem VRow.lt {l:List Value} (h:VRow w b off l) (hl:l≠[]):b<w.heap.size:=cell_lt (h 0 (List.length_pos_iff.2 hl))
theorem VRow.below {l:List Value} (h:VRow w b off l) (hb:Below B w w') (hB:b<B):VRow w' b off l:=
 fun j hj=>(hb.cell (p:=⟨b,off+j,none⟩) hB).trans (h j hj)
theorem VRow.grown {l:List Value} (h:VRow w b off l) (hb:Below w.heap.size w w'):VRow w' b off l:=by
 by_cases hl:l=[]
 ·subst hl;intro j hj;simp at hj
 ·exact h.below hb (h.lt hl)
theorem VRow.gb (hg:w.grownBy w' row) {l:List Value} (h:VRow w b off l) (hne:some b≠row):VRow w' b off l:=
 fun j hj=>gb_cell hg (h j hj) hne
theorem rec_get {α:Type} (f:α->List Value) (k:Nat) (hf:∀ x,(f x).length=k) (d:α) (xs:List α):∀ j i,j<xs.length->i<k->(xs.flatMap f).getD (j*k+i) dV=(f (xs.getD j d)).getD i dV:=by
 induction xs with
 |nil=>intro j i hj;simp at hj
 |cons x r ih=>
  intro j i hj hi
  rw[List.flatMap_cons]
  cases j with
  |zero=>
   simp only[List.getD]
   rw[List.getElem?_append_left (by rw[hf];omega)]
   simp
  |succ j=>
   have h:=ih j i (by simpa using hj) hi
   simp only[List.getD] at h ⊢
   rw[List.getElem?_append_right (by rw[hf,Nat.succ_mul];omega),hf,show(j+1)*k+i-k=j*k+i by rw[Nat.succ_mul];omega,h]
   simp
theorem rec_len {α:Type} (f:α->List Value) (k:Nat) (hf:∀ x,(f x).length=k) (xs:List α):(xs.flatMap f).length=xs.length*k:=by
 induction xs with
 |nil=>simp
 |cons x r ih=>rw[List.flatMap_cons,List.length_append,ih,hf,List.length_cons,Nat.succ_mul];omega
theorem rec_lt (hj:j<n) (hi:i<k):j*k+i<n*k:=by
 have:=Nat.mul_le_mul_right k (show j+1<=n from hj)
 rw[Nat.succ_mul] at this
 omega
theorem rcell {α:Type} {f:α->List Value} (hf:∀ x,(f x).length=k) (d:α) {xs:List α} (h:VRow w b off (xs.flatMap f)) (j:Nat) (hj:j<xs.length) (i:Nat) (hi:i<k):
 w.cell? ⟨b,off+j*k+i,none⟩=some ((f (xs.getD j d)).getD i dV):=by
 have:=h _ (by rw[rec_len f k hf];exact rec_lt hj hi)
 rw[rec_get f k hf d xs j i hj hi] at this
 rw[Nat.add_assoc]
 exact this
def RecAt {α:Type} (f:α->List Value) (w:World) (ao:OAd) (xs:List α):Prop:=xs=[]\/∃ b off,ao=some ⟨b,off,none⟩/\VRow w b off (xs.flatMap f)
theorem RecAt.grown {α:Type} {f:α->List Value} {xs:List α} (h:RecAt f w ao xs) (hb:Below w.heap.size w w'):RecAt f w' ao xs:=by
 rcases h with h|⟨b,off,h,hr⟩
 ·exact Or.inl h
 ·exact Or.inr ⟨b,off,h,hr.grown hb⟩
theorem RecAt.gb {α:Type} {f:α->List Value} (hg:w.grownBy w' row) {xs:List α} (h:RecAt f w ao xs) (hne:Off ao row):RecAt f w' ao xs:=by
 rcases h with h|⟨b,off,rfl,hr⟩
 ·exact Or.inl h
 ·exact Or.inr ⟨b,off,rfl,hr.gb hg (hne _ rfl)⟩
def OwnRec {α:Type} (f:α->List Value) (e k:Nat) (w:World) (base:Nat) (v:Value) (xs:List α):Prop:=w.ownsRow base e k v xs.length (xs.flatMap f)
theorem OwnRec.nil {α:Type} (f:α->List Value) (e k:Nat) (w:World) (base:Nat):OwnRec f e k w base (.slice none 0 0) []:=World.ownsRow_nil _ _ _ _
theorem OwnRec.slice {α:Type} {f:α->List Value} (hf:∀ x,(f x).length=k) {xs:List α} (h:OwnRec f e k w base v xs):
 (v=.slice none 0 0/\xs=[])\/∃ g c,v=.slice (some ⟨g,0,none⟩) xs.length c/\base<=g/\g<w.heap.size/\VRow w g 0 (xs.flatMap f)/\(∀ j,w.frozen? ⟨g,j,none⟩=false):=by
 rcases owned_row h with⟨h1,h2⟩|⟨g,c,h1,h2,h3,h4,h5⟩
 ·exact Or.inl ⟨h1,List.length_eq_zero_iff.1 h2⟩
 ·refine Or.inr ⟨g,c,h1,h2,h3,fun j hj=>?_,h5⟩
  rw[rec_len f k hf] at hj
  have hj':j<(xs.flatMap f).length:=by rw[rec_len f k hf];exact hj
  rw[Nat.zero_add,h4 j hj]
  simp only[List.getD]
  rw[List.getElem?_eq_getElem hj',Option.getD_some]
theorem OwnRec.at {α:Type} {f:α->List Value} (hf:∀ x,(f x).length=k) {xs:List α} (h:OwnRec f e k w base v xs):∃ ao c,v=.slice ao xs.length c/\RecAt f w ao xs:=by
 rcases h.slice hf with⟨rfl,rfl⟩|⟨g,c,rfl,_,_,hr,_⟩
 ·exact⟨none,0,rfl,Or.inl rfl⟩
 ·exact⟨_,c,rfl,Or.inr ⟨g,0,rfl,hr⟩⟩
theorem OwnRec.gb {α:Type} {f:α->List Value} (hg:w.grownBy w' row) {xs:List α} (h:OwnRec f e k w base v xs) (hne:∀ k,v.ownBlock=some k->some k≠row):OwnRec f e k w' base v xs:=owns_gb hg h hne
theorem OwnRec.grown {α:Type} {f:α->List Value} {xs:List α} (h:OwnRec f e k w base v xs) (hb:Below w.heap.size w w'):OwnRec f e k w' base v xs:=h.gb (gb_below hb Option.none) (fun _ _=>by simp)
theorem OwnRec.blk {α:Type} {f:α->List Value} {xs:List α} (h:OwnRec f e k w base v xs):∀ k,v.ownBlock=some k->base<=k/\k<w.heap.size:=owns_blk h
theorem OwnRec.alloc {α:Type} {f:α->List Value} {xs:List α} (h:OwnRec f e k w base v xs) (o:Obj):OwnRec f e k (w.alloc o) base v xs:=World.ownsRow.alloc h o
theorem vrow_src {l:List Value} (h:VRow W g 0 l):∀ j u,l[j]?=some u->W.cell? ((⟨g,0,none⟩:Addr).add j)=some u:=by
 intro j u hj
 obtain⟨hl,e⟩:=List.getElem?_eq_some_iff.1 hj
 have:=h j hl
 simp only[List.getD,hj,Option.getD_some] at this
 rw[Go.WideShapes.add_plain]
 exact this
theorem wpList_appR {α:Type} {f:α->List Value} (sT bytes:Nat) (z:Value) (hu:Tryz.prog.underlying sT=some (.slice e)) (hinf:(Tryz.prog.info? e).map (fun i=>(i.zero,i.size,i.bytes))=some (some z,k,bytes)) (hzs:z.cells.size=k) (hk:0<k) (hf:∀ x,(f x).length=k) (h1:∀ x,∀ u∈f x,u.oneCell'=true)
 (W:World) {ops:Array Oper} {rest:List Oper} {o:Oper} {a:Act} {Q:Exit->Act->World->Prop} (hgd:o.guard=none) (s x:Operand)
 (ho:o.op=.call { callee:=.builtin .append,args:=#[s,x],argTypes:=#[sT,sT] })
 (base g0 c:Nat) (v:Value) (xs:List α) (y:α) (hs:a.eval s=v) (hx:a.eval x=.slice (some ⟨g0,0,none⟩) 1 c) (hown:OwnRec f e k W base v xs) (hc:VRow W g0 0 (f y)) (hbase:base<=W.heap.size) (hlen:xs.length+1<=maxLen) (hby:(xs.length+1)*bytes<=140737488355328)
 (h:∀ g cap w',OwnRec f e k w' base (.slice (some ⟨g,0,none⟩) (xs.length+1) cap) (xs++[y])->W.grownBy w' v.ownBlock->(v.ownBlock=some g\/W.heap.size<=g)->g<w'.heap.size->wpList Tryz.prog ops Q rest (a.put o.dst (.slice (some ⟨g,0,none⟩) (xs.length+1) cap)) w'):
 wpList Tryz.prog ops Q (o::rest) a W:=by
 obtain⟨i0,hi,hz0,hz1,hz2⟩:=info_parts hinf
 refine wpList_append_lies _ hgd s x sT ho base e i0 z k bytes hu hi hz0 hz1 hz2 hzs hk v xs.length (xs.flatMap f) hs hown ⟨g0,0,none⟩ 1 c (f y) hx (by rw[hf];omega) (vrow_src hc) (h1 y) (by decide) hlen hby hbase W.heap.size rfl ?_
 intro g cap w' hown' hg hlies hlt
 refine h g cap w' ?_ hg (hlies.imp id fun e=>by omega) hlt
 unfold OwnRec
 rw[List.length_append,List.flatMap_append]
 simpa using hown'
theorem step_appR {α:Type} {f:α->List Value} (sT bytes:Nat) (z:Value) (hu:Tryz.prog.underlying sT=some (.slice e)) (hinf:(Tryz.prog.info? e).map (fun i=>(i.zero,i.size,i.bytes))=some (some z,k,bytes)) (hzs:z.cells.size=k) (hk:0<k) (hf:∀ x,(f x).length=k) (h1:∀ x,∀ u∈f x,u.oneCell'=true)
 (W:World) {ops:Array Oper} {o:Oper} {a:Act} {K:Act->World->Prop} {Q:Exit->Act->World->Prop} {E:Prop} (hgd:o.guard=none) (s x:Operand)
 (ho:o.op=.call { callee:=.builtin .append,args:=#[s,x],argTypes:=#[sT,sT] })
 (base g0 c:Nat) (v:Value) (xs:List α) (y:α) (hs:a.eval s=v) (hx:a.eval x=.slice (some ⟨g0,0,none⟩) 1 c) (hown:OwnRec f e k W base v xs) (hc:VRow W g0 0 (f y)) (hbase:base<=W.heap.size) (hlen:xs.length+1<=maxLen) (hby:(xs.length+1)*bytes<=140737488355328)
 (h:∀ g cap w',OwnRec f e k w' base (.slice (some ⟨g,0,none⟩) (xs.length+1) cap) (xs++[y])->W.grownBy w' v.ownBlock->(v.ownBlock=some g\/W.heap.size<=g)->g<w'.heap.size->K (a.put o.dst (.slice (some ⟨g,0,none⟩) (xs.length+1) cap)) w'):
 if Region.wanted o (yielded ops a.tmps)=true then Oper.wp Tryz.prog o a W K Q else E:=by
 obtain⟨i0,hi,hz0,hz1,hz2⟩:=info_parts hinf
 refine step_append_lies W hgd s x sT ho base e i0 z k bytes hu hi hz0 hz1 hz2 hzs hk v xs.length (xs.flatMap f) hs hown ⟨g0,0,none⟩ 1 c (f y) hx (by rw[hf];omega) (vrow_src hc) (h1 y) (by decide) hlen hby hbase W.heap.size rfl ?_
 intro g cap w' hown' hg hlies hlt
 refine h g cap w' ?_ hg (hlies.imp id fun e=>by omega) hlt
 unfold OwnRec
 rw[List.length_append,List.flatMap_append]
 simpa using hown'
theorem vrow_new (w:World) (l:List Value) (t:TypeId):VRow (w.alloc (.cells l.toArray t)) w.heap.size 0 l:=by
 intro j hj
 rw[Nat.zero_add,World.cell?_alloc_new]
 simp[List.getD,hj]
structure Cel where
 id:Int
 pos:Int
 to:Int
 val:Int
 made:Int
 spent:Int
def dC:Cel:=⟨0,0,0,0,0,0⟩
def Cel.l (x:Cel):List Value:=[.int .i64 x.id,.int .i64 x.pos,.int .i64 x.to,.int .i64 x.val,.int .i64 x.made,.int .i64 x.spent]
structure CelCells (w:World) (b off:Nat) (x:Cel):Prop where
 c0:w.cell? ⟨b,off,none⟩=some (.int .i64 x.id)
 c1:w.cell? ⟨b,off+1,none⟩=some (.int .i64 x.pos)
 c2:w.cell? ⟨b,off+2,none⟩=some (.int .i64 x.to)
 c3:w.cell? ⟨b,off+3,none⟩=some (.int .i64 x.val)
 c4:w.cell? ⟨b,off+4,none⟩=some (.int .i64 x.made)
 c5:w.cell? ⟨b,off+5,none⟩=some (.int .i64 x.spent)
theorem cel6 (x:Cel):x.l.length=6:=rfl
theorem celCells {xs:List Cel} (h:VRow w b off (xs.flatMap Cel.l)) (j:Nat) (hj:j<xs.length):CelCells w b (off+j*6) (xs.getD j dC):=
 ⟨rcell cel6 dC h j hj 0 (by omega),rcell cel6 dC h j hj 1 (by omega),rcell cel6 dC h j hj 2 (by omega),rcell cel6 dC h j hj 3 (by omega),rcell cel6 dC h j hj 4 (by omega),rcell cel6 dC h j hj 5 (by omega)⟩
def CelsAt (w:World) (ao:OAd) (xs:List Cel):Prop:=RecAt Cel.l w ao xs
theorem CelsAt.grown {xs:List Cel} (h:CelsAt w ao xs) (hb:Below w.heap.size w w'):CelsAt w' ao xs:=RecAt.grown h hb
def paidTo (xs:List Cel) (a:Int):Bool:=xs.any fun x=>x.to== a
def hasId (xs:List Cel) (a:Int):Bool:=xs.any fun x=>x.id== a
theorem any_no {α:Type} (p:α->Bool) (l:List α) (d:α) (k:Nat) (h:k<l.length) (h0:(l.take k).any p=false) (h1:p (l.getD k d)=false):(l.take (k+1)).any p=false:=by
 rw[List.take_succ_eq_append_getElem h,List.any_append,h0]
 simp only[List.getD,List.getElem?_eq_getElem h,Option.getD_some] at h1
 simp[h1]
theorem any_yes {α:Type} (p:α->Bool) (l:List α) (d:α) (k:Nat) (h:k<l.length) (h':p (l.getD k d)=true):l.any p=true:=by
 rw[List.any_eq_true]
 refine⟨l[k],List.getElem_mem h,?_⟩
 simpa only[List.getD,List.getElem?_eq_getElem h,Option.getD_some] using h'
theorem any_done {α:Type} (p:α->Bool) (l:List α) (n:Nat) (hn:l.length=n) (k:Nat) (hk:n<=k) (h:(l.take k).any p=false):false=l.any p:=by
 rw[<-h,List.take_of_length_le (by omega)]
theorem isPaid_any (b o:Nat) (ao:OAd) (n c:Nat) (xs:List Cel) (a:Int) (w:World) (hp:w.cell? ⟨b,o,none⟩=some (.slice ao n c)) (hx:CelsAt w ao xs) (hn:xs.length=n) (hm:n<=1000000):
 Calls Tryz.prog 141 #[.pointer (some ⟨b,o,none⟩),.int .i64 a] w fun e w'=>e=.returned (.bool (paidTo xs a))/\Below w.heap.size w w':=by
 have HN:=hiD hn
 have HX:=hiD hx
 clear hn hx
 go_enter Tryz.func141,Tryz.ntmps141
 go_wp2
 go_loopw [12] (fun i wr=>∃ k:Nat,k<=n/\i=.int .i64 k/\Hid ((xs.take k).any (fun x=>x.to== a)=false)/\Below w.heap.size w wr) (fun i _=>n-(intOf i).toNat)
 case atStart=>exact⟨0,Nat.zero_le _,rfl,by show List.any _ _=false;simp,Below.refl _ _⟩
 case round=>
  obtain⟨k,hk,rfl,hany,hbl⟩:=hrel
  have hsz:=hbl.size
  by_cases hlt:k<n
  ·rcases HX.out with hnil|⟨g,off,rfl,hrow⟩
   ·have:=HN.out;rw[hnil] at this;simp at this;omega
   obtain⟨c0,c1,c2,c3,c4,c5⟩:=celCells (hrow.grown hbl) k (by rw[HN.out];exact hlt)
   have HS:Hid _:=any_no (fun x:Cel=>x.to== a) xs dC k (by rw[HN.out];exact hlt) hany.out
   have HZ:Hid _:=any_yes (fun x:Cel=>x.to== a) xs dC k (by rw[HN.out];exact hlt)
   clear hrow
   generalize xs.getD k dC=y at c0 c1 c2 c3 c4 c5 HS HZ
   obtain⟨yid,ypos,yto,yval,ymade,yspent⟩:=y
   simp only at c0 c1 c2 c3 c4 c5
   cases hy:(yto== a)
   ·go_wp2
    go_roundw
    case rel=>exact⟨k+1,by omega,by go_num,HS hy,hbl.alloc hsz _⟩
    case measure=>simp[intOf];omega
   ·go_wp2
    go_ret
    exact⟨ret_bool (HZ hy).symm,hbl.alloc hsz _⟩
  ·go_wp2
   go_ret
   exact⟨ret_bool (any_done _ xs n HN k (by omega) hany.out),hbl⟩
theorem hasId_any (b o:Nat) (ao:OAd) (n c:Nat) (xs:List Cel) (a:Int) (w:World) (hp:w.cell? ⟨b,o,none⟩=some (.slice ao n c)) (hx:CelsAt w ao xs) (hn:xs.length=n) (hm:n<=1000000):
 Calls Tryz.prog 86 #[.pointer (some ⟨b,o,none⟩),.int .i64 a] w fun e w'=>e=.returned (.bool (hasId xs a))/\Below w.heap.size w w':=by
 have HN:=hiD hn
 have HX:=hiD hx
 clear hn hx
 go_enter Tryz.func86,Tryz.ntmps86
 go_wp2
 go_loopw [12] (fun i wr=>∃ k:Nat,k<=n/\i=.int .i64 k/\Hid ((xs.take k).any (fun x=>x.id== a)=false)/\Below w.heap.size w wr) (fun i _=>n-(intOf i).toNat)
 case atStart=>exact⟨0,Nat.zero_le _,rfl,by show List.any _ _=false;simp,Below.refl _ _⟩
 case round=>
  obtain⟨k,hk,rfl,hany,hbl⟩:=hrel
  have hsz:=hbl.size
  by_cases hlt:k<n
  ·rcases HX.out with hnil|⟨g,off,rfl,hrow⟩
   ·have:=HN.out;rw[hnil] at this;simp at this;omega
   obtain⟨c0,c1,c2,c3,c4,c5⟩:=celCells (hrow.grown hbl) k (by rw[HN.out];exact hlt)
   have HS:Hid _:=any_no (fun x:Cel=>x.id== a) xs dC k (by rw[HN.out];exact hlt) hany.out
   have HZ:Hid _:=any_yes (fun x:Cel=>x.id== a) xs dC k (by rw[HN.out];exact hlt)
   clear hrow
   generalize xs.getD k dC=y at c0 c1 c2 c3 c4 c5 HS HZ
   obtain⟨yid,ypos,yto,yval,ymade,yspent⟩:=y
   simp only at c0 c1 c2 c3 c4 c5
   cases hy:(yid== a)
   ·go_wp2
    go_roundw
    case rel=>exact⟨k+1,by omega,by go_num,HS hy,hbl.alloc hsz _⟩
    case measure=>simp[intOf];omega
   ·go_wp2
    go_ret
    exact⟨ret_bool (HZ hy).symm,hbl.alloc hsz _⟩
  ·go_wp2
   go_ret
   exact⟨ret_bool (any_done _ xs n HN k (by omega) hany.out),hbl⟩
def wgo (hit:Nat->Bool) (g:Nat):Nat->Nat->Nat->Nat
 |0,_,v=>v
 |f+1,i,v=>if i<v then wgo hit g f (i+1) (if hit i=true then min 100 (i+1+g) else v) else v
def hitAt (xs:List Cel) (s br:Int) (i:Nat):Bool:=paidTo xs (Mk.adr s br i)
def winZ (xs:List Cel) (s:Int) (g:Nat) (br:Int):Nat:=wgo (hitAt xs s br) g 101 0 (min 100 g)
theorem key_ok (hs:Mk.isM s=true) (hb:br=0\/br=1) {i:Int} (h0:0<=i) (h1:i<100):Mk.isK s br i=true:=by
 have hm:=(Mk.isM_iff s).1 hs
 unfold Mk.isK
 exact decide_eq_true ⟨hb,⟨h0,h1⟩,hm⟩
theorem atMost_any (x:Int) (w:World):Calls Tryz.prog 148 #[.int .i64 x] w fun e w'=>e=.returned (.int .i64 (min 100 x))/\w=w':=by
 by_cases h:x<=100
 ·go_enter Tryz.func148,Tryz.ntmps148
  go_wp2
  go_ret
  exact⟨ret_int (by omega),rfl⟩
 ·go_enter Tryz.func148,Tryz.ntmps148
  go_wp2
  go_ret
  exact⟨ret_int (by omega),rfl⟩
theorem window_any (b o:Nat) (ao:OAd) (n c:Nat) (xs:List Cel) (s:Int) (g:Nat) (br:Int) (w:World) (hs:Mk.isM s=true) (hg:1<=g) (hg2:g<=20) (hb:br=0\/br=1)
 (hp:w.cell? ⟨b,o,none⟩=some (.slice ao n c)) (hx:CelsAt w ao xs) (hn:xs.length=n) (hm:n<=1000000):
 Calls Tryz.prog 94 #[.pointer (some ⟨b,o,none⟩),.int .i64 s,.int .i64 g,.int .i64 br] w fun e w'=>e=.returned (.int .i64 (winZ xs s g br))/\Below w.heap.size w w':=by
 have HN:=hiD hn
 have HX:=hiD hx
 have HP:=hiD hp
 have HB:=hiD hb
 clear hn hx hp hb
 have ea:min 100 (g:Int)=((min 100 g:Nat):Int):=by omega
 go_enter Tryz.func94,Tryz.ntmps94
 go_wp2_with (go_at_call 148;refine(atMost_any _ _).mono ?_;rintro e w' ⟨rfl,rfl⟩;rw[ea])
 go_loopw [9,10] (fun v i wr=>∃ k W:Nat,k<=W/\W<=100/\i=.int .i64 k/\v=.int .i64 W/\Hid (wgo (hitAt xs s br) g (101-k) k W=winZ xs s g br)/\Below w.heap.size w wr) (fun _ i _=>100-(intOf i).toNat)
 case atStart=>exact⟨0,min 100 g,by omega,by omega,rfl,rfl,rfl,Below.refl _ _⟩
 case round=>
  obtain⟨k,W,hk,hW,rfl,rfl,hz,hbl⟩:=hrel
  have hsz:=hbl.size
  by_cases hlt:k<W
  ·have hK:=key_ok hs HB.out (show(0:Int)<=(k:Int) by omega) (show(k:Int)<100 by omega)
   have hz':=hz.out
   rw[show 101-k=(101-(k+1))+1 by omega] at hz'
   unfold wgo at hz'
   rw[if_pos hlt] at hz'
   have HZ:=hiD hz'
   clear hz'
   go_wp2_with fail
   refine(address_yes _ _ _ _ hK).mono ?_
   rintro e w1 ⟨rfl,hb1⟩
   have hbw1:=hbl.trans (hb1.mono hsz)
   have hp1:=(hbw1.cell (p:=⟨b,o,none⟩) (cell_lt HP.out)).trans HP.out
   have HX1:=hiD (HX.out.grown hbw1)
   go_wp2_with fail
   refine(isPaid_any b o ao n c xs _ _ hp1 HX1 HN hm).mono ?_
   rintro e w2 ⟨rfl,hb2⟩
   have hbw2:=hbw1.trans (hb2.mono hbw1.size)
   cases hh:paidTo xs (Mk.adr s br k)
   ·rw[show hitAt xs s br k=false from hh] at HZ
    go_wp2
    go_roundw
    case rel=>exact⟨k+1,W,by omega,hW,by go_num,rfl,HZ,hbw2⟩
    case measure=>simp[intOf];omega
   ·rw[show hitAt xs s br k=true from hh] at HZ
    have eb:min 100 ((k:Int)+1+(g:Int))=((min 100 (k+1+g):Nat):Int):=by omega
    go_wp2_with (go_at_call 148;refine(atMost_any _ _).mono ?_;rintro e w' ⟨rfl,rfl⟩;rw[eb])
    go_roundw
    case rel=>exact⟨k+1,min 100 (k+1+g),by omega,by omega,by go_num,rfl,HZ,hbw2⟩
    case measure=>simp[intOf];omega
  ·have hkW:k=W:=by omega
   subst hkW
   go_wp2
   go_ret
   refine⟨ret_int ?_,hbl⟩
   rw[<-hz.out,show 101-k=(100-k)+1 by omega]
   unfold wgo
   rw[if_neg (by omega)]
structure KeyD where
 br:Int
 ix:Int
 ad:Int
def dK:KeyD:=⟨0,0,0⟩
def KeyD.l (x:KeyD):List Value:=[.int .i64 x.br,.int .i64 x.ix,.int .i64 x.ad]
theorem key3 (x:KeyD):x.l.length=3:=rfl
theorem key_one (x:KeyD):∀ u∈x.l,u.oneCell'=true:=by
 intro u hu
 simp[KeyD.l] at hu
 rcases hu with rfl|rfl|rfl<;>rfl
theorem info153:(Tryz.prog.info? 153).map (fun i=>(i.zero,i.size,i.bytes))=some (some (.agg #[.int .i64 0,.int .i64 0,.int .i64 0]),3,24):=by kernel_rfl
def keysB (s br:Int) (n:Nat):List KeyD:=(List.range n).map fun i:Nat=>⟨br,i,Mk.adr s br i⟩
def keysP (xs:List Cel) (s:Int) (g:Nat):Nat->List KeyD
 |0=>[]
 |k+1=>keysP xs s g k++keysB s k (winZ xs s g k)
def keysZ (xs:List Cel) (s:Int) (g:Nat):List KeyD:=keysB s 0 (winZ xs s g 0)++keysB s 1 (winZ xs s g 1)
theorem keysP_two (xs:List Cel) (s:Int) (g:Nat):keysP xs s g 2=keysZ xs s g:=by simp[keysP,keysZ]
theorem keysB_snoc (s br:Int) (k:Nat):keysB s br (k+1)=keysB s br k++[⟨br,k,Mk.adr s br k⟩]:=by
 unfold keysB
 rw[List.range_succ,List.map_append]
 rfl
theorem keysB_len (s br:Int) (k:Nat):(keysB s br k).length=k:=by simp[keysB]
theorem wgo_le (hit:Nat->Bool) (g:Nat):∀ f i v,v<=100->wgo hit g f i v<=100:=by
 intro f
 induction f with
 |zero=>intro i v h;exact h
 |succ f ih=>
  intro i v h
  unfold wgo
  split
  ·apply ih
   split<;>omega
  ·exact h
theorem winZ_le (xs:List Cel) (s:Int) (g:Nat) (br:Int):winZ xs s g br<=100:=wgo_le _ _ _ _ _ (by omega)
theorem keysP_len (xs:List Cel) (s:Int) (g:Nat):∀ k,(keysP xs s g k).length<=k*100:=by
 intro k
 induction k with
 |zero=>simp[keysP]
 |succ k ih=>
  have:=winZ_le xs s g k
  rw[keysP,List.length_append,keysB_len]
  omega
abbrev OwnKeys (w:World) (base:Nat) (v:Value) (xs:List KeyD):Prop:=OwnRec KeyD.l 153 3 w base v xs
theorem keys_any (b o:Nat) (ao:OAd) (n c:Nat) (xs:List Cel) (s:Int) (g:Nat) (w:World) (hs:Mk.isM s=true) (hg:1<=g) (hg2:g<=20)
 (hp:w.cell? ⟨b,o,none⟩=some (.slice ao n c)) (hx:CelsAt w ao xs) (hn:xs.length=n) (hm:n<=1000000):
 Calls Tryz.prog 140 #[.pointer (some ⟨b,o,none⟩),.int .i64 s,.int .i64 g] w fun e w'=>∃ v,e=.returned v/\OwnKeys w' w.heap.size v (keysZ xs s g)/\Below w.heap.size w w':=by
 have HN:=hiD hn
 have HX:=hiD hx
 have HP:=hiD hp
 clear hn hx hp
 generalize hB:w.heap.size=B
 have HB:=hiD hB
 clear hB
 go_enter Tryz.func140,Tryz.ntmps140
 go_wp2
 go_loopw [7,8] (fun v i wr=>∃ k:Nat,k<=2/\i=.int .i64 k/\OwnKeys wr B v (keysP xs s g k)/\Below B w wr) (fun _ i _=>2-(intOf i).toNat)
 case atStart=>exact⟨0,by omega,rfl,OwnRec.nil _ _ _ _ _,Below.refl _ _⟩
 case round=>
  obtain⟨k,hk,rfl,hown,hbl⟩:=hrel
  have hsz:=hbl.size
  rw[HB.out] at hsz
  by_cases hlt:k<2
  ·have hbr:(k:Int)=0\/(k:Int)=1:=by omega
   have HBR:=hiD hbr
   clear hbr
   have hp1:=(hbl.cell (p:=⟨b,o,none⟩) (by have:=cell_lt HP.out;rw[HB.out] at this;exact this)).trans HP
   have HX1:Hid (CelsAt wr ao xs):=HX.out.grown (by rw[HB.out];exact hbl)
   go_wp2_with fail
   refine(window_any b o ao n c xs s g k _ hs hg hg2 HBR hp1 HX1 HN hm).mono ?_
   rintro e w1 ⟨rfl,hb1⟩
   have hown1:=OwnRec.grown hown hb1
   have hbl1:=hbl.trans (hb1.mono hsz)
   have hsz1:B<=w1.heap.size:=leT hsz hb1.size
   have HL:Hid ((keysP xs s g k).length<=k*100):=keysP_len xs s g k
   have HE:Hid (keysP xs s g (k+1)=keysP xs s g k++keysB s k (winZ xs s g k)):=rfl
   have hW:=winZ_le xs s g k
   generalize winZ xs s g k=W at *
   generalize keysP xs s g k=L at *
   clear hown hbl hb1 hp1 HX1 hsz
   go_wp2
   go_loopw [7,10] (fun v i wr=>∃ j:Nat,j<=W/\i=.int .i64 j/\OwnKeys wr B v (L++keysB s k j)/\Below B w wr) (fun _ i _=>W-(intOf i).toNat)
   case atStart=>exact⟨0,by omega,rfl,by simpa [keysB] using hown1,hbl1⟩
   case round=>
    obtain⟨j,hj,rfl,hown2,hbl2⟩:=hrel
    have hsz2:=hbl2.size
    rw[HB.out] at hsz2
    by_cases hjt:j<W
    ·have hK:=key_ok hs HBR.out (show(0:Int)<=(j:Int) by omega) (show(j:Int)<100 by omega)
     go_wp2_with fail
     refine(address_yes _ _ _ _ hK).mono ?_
     rintro e w2 ⟨rfl,hb2⟩
     have hown3:=OwnRec.grown hown2 hb2
     have hbl3:=hbl2.trans (hb2.mono hsz2)
     have hsz3:B<=w2.heap.size:=leT hsz2 hb2.size
     have hll:(L++keysB s k j).length<=300:=by rw[List.length_append,keysB_len];have:=HL.out;omega
     have HL2:=hiD hll
     have HE2:Hid (L++keysB s k (j+1)=(L++keysB s k j)++[⟨k,j,Mk.adr s k j⟩]):=by show _=_;rw[keysB_snoc,List.append_assoc]
     clear hown2 hbl2 hb2 hsz2 hll
     generalize L++keysB s k j=L2 at *
     go_wp2_with (at_builtin;refine wpList_appR 203 24 _ Tryz.underlying203 info153 rfl (by decide) key3 key_one (w2.alloc (.cells #[.int .i64 k,.int .i64 j,.int .i64 (Mk.adr s k j)] 153)) rfl _ _ rfl B w2.heap.size 1 _ L2 ⟨k,j,Mk.adr s k j⟩ (by rfl) (by rfl) (hown3.alloc _) (vrow_new _ _ _) (by simp;omega) (by have:=HL2.out;unfold maxLen;omega) (by have:=HL2.out;omega) ?_;intro g' cap w3 hown4 hg4 _ _)
     go_roundw
     case rel=>exact⟨j+1,by omega,by go_num,by rw[HE2.out];exact hown4,hbl3.trans (gb_to_below (gb_trans (gb_alloc _ _ _) hg4) hsz3 (fun q hq=>(hown3.blk q hq).1))⟩
     case measure=>simp[intOf];omega
    ·have hjW:j=W:=by omega
     subst hjW
     go_wp2
     go_roundw
     case rel=>exact⟨k+1,by omega,by go_num,by rw[HE.out];exact hown2,hbl2⟩
     case measure=>simp[intOf];omega
  ·have hk2:k=2:=by omega
   subst hk2
   rw[keysP_two] at hown
   go_wp2
   go_ret
   exact⟨_,rfl,hown,hbl⟩
end
end Go.Proofs.YtffgpepngcnjeabGreat
